/-
  OUR OWN TEXT. Dw3, Dw4h, Dw4, Dw5, Dw6, Dw9, Dw10h, one behind the other.
-/
import Derived.Test.YtgkoiojelckblaaGreatDoorKat
import Derived.Test.YtgkoiojelckblaaGreatDoorKag
import Derived.Test.YtgkoiojelckblaaGreatDoorOgm
import Derived.Deep.RegionLaw
import Derived.Laws.BytesArg
import Derived.Deep.DeepCutAuto
namespace Go.Proofs.YtgkoiojelckblaaGreatDoor
open Go.RowKit
attribute [local go_sem ↓] Go.wp_at_zero Go.wp_at_succ

/-- A word that is known. -/
def GK (K : List ByteArray) (s : ByteArray) : Prop := s.size ≤ 20 ∧ gSym s.data.toList = true ∧ s ∈ K
/-- Words that lie in blocks younger than the reader's. -/
def StrsOn (K : List ByteArray) (w : World) (g : Nat) (a : Option Addr) (n : Nat) : Prop := n ≤ 1048576 ∧ ∀ j, j < n → ∃ (b o : Nat) (s : ByteArray), a = some ⟨b, o, none⟩ ∧ g < b ∧ GK K s ∧ w.cell? ⟨b, o + j, none⟩ = some (.string s)
theorem StrsOn.rs {K : List ByteArray} {w w' : World} {g : Nat} {a : Option Addr} {n : Nat} (h : StrsOn K w g a n) (hr : Rs g w w') : StrsOn K w' g a n := by
  refine ⟨h.1, fun j hj => ?_⟩
  obtain ⟨b, o, s, h1, h2, h3, h4⟩ := h.2 j hj
  exact ⟨b, o, s, h1, h2, h3, cell_rs hr h4 (by omega)⟩
theorem StrsOn.bel {K : List ByteArray} {w w' : World} {g : Nat} {a : Option Addr} {n : Nat} (h : StrsOn K w g a n) (hb : Below w.heap.size w w') : StrsOn K w' g a n := by
  refine ⟨h.1, fun j hj => ?_⟩
  obtain ⟨b, o, s, h1, h2, h3, h4⟩ := h.2 j hj
  exact ⟨b, o, s, h1, h2, h3, cell_below hb h4⟩
def tmCells (t : Tm) : List Value := [.int .i64 t.kind, .int .i64 t.op, .string t.var, .int .i64 t.val.kind, .int .i64 t.val.num, .string t.val.sym]
def tmV (t : Tm) : Value := .agg (tmCells t).toArray
/-- What is asked of a term that was drawn. -/
def TmSm (t : Tm) : Prop := t.var.size ≤ 20 ∧ VSm t.val ∧ gTm t = true
def TmSmK (K : List ByteArray) (t : Tm) : Prop := TmSm t ∧ (asks t = true → memB t.var K = true)
theorem tk_any (K : List ByteArray) : TmSmK K ⟨0, 0, ⟨#[]⟩, (0, 0, ⟨#[]⟩)⟩ := ⟨⟨Nat.zero_le 20, vsm_zero, by simp [gTm, isE_em', zeroV_zero']⟩, fun h => by simp [asks] at h⟩
theorem tk_const (K : List ByteArray) {v : V} (hv : VSm v) : TmSmK K ⟨1, 0, ⟨#[]⟩, v⟩ := ⟨⟨Nat.zero_le 20, hv, by simp [gTm, isE_em', hv.2.2.2.2]⟩, fun h => by simp [asks] at h⟩
theorem tk_var (K : List ByteArray) {s : ByteArray} (hs : GNm s) : TmSmK K ⟨2, 0, s, (0, 0, ⟨#[]⟩)⟩ := ⟨⟨hs.1, vsm_zero, by simp [gTm, hs.2, zeroV_zero']⟩, fun h => by simp [asks] at h⟩
theorem tk_testv {K : List ByteArray} {s : ByteArray} {op : Int} (h1 : 1 ≤ op) (h6 : op ≤ 6) (hs : GK K s) : TmSmK K ⟨3, op, s, (0, 0, ⟨#[]⟩)⟩ := ⟨⟨hs.1, vsm_zero, by simp [gTm, operandOk, hs.2.1, zeroV_zero', h1, h6]⟩, fun _ => List.any_eq_true.2 ⟨s, hs.2.2, by simp⟩⟩
theorem tk_testc (K : List ByteArray) {v : V} {op : Int} (h1 : 1 ≤ op) (h6 : op ≤ 6) (hv : VSm v) : TmSmK K ⟨3, op, ⟨#[]⟩, v⟩ := ⟨⟨Nat.zero_le 20, hv, by simp [gTm, operandOk, isE_em', hv.2.2.2.2, h1, h6]⟩, fun h => by simp [asks, isE_em'] at h⟩
theorem tmCells_one (t : Tm) : ∀ u ∈ tmCells t, u.oneCell' = true := by
  intro u hu
  simp [tmCells] at hu
  rcases hu with rfl | rfl | rfl | rfl | rfl | rfl <;> rfl
theorem infoTmS : (Tryz.prog.info? 49).map (·.size) = some 6 := by kernel_rfl
theorem box6 {w : World} {b : Nat} {ty : TypeId} {t : Tm} (h : w.heap[b]? = some (.cells (tmCells t).toArray ty (0, 0))) : w.cell? ⟨b, 0, none⟩ = some (.int .i64 t.kind) ∧ w.cell? ⟨b, 1, none⟩ = some (.int .i64 t.op) ∧ w.cell? ⟨b, 2, none⟩ = some (.string t.var) ∧ w.cell? ⟨b, 3, none⟩ = some (.int .i64 t.val.kind) ∧ w.cell? ⟨b, 4, none⟩ = some (.int .i64 t.val.num) ∧ w.cell? ⟨b, 5, none⟩ = some (.string t.val.sym) := by
  refine ⟨?_, ?_, ?_, ?_, ?_, ?_⟩ <;> simp [World.cell?, h, tmCells]
theorem abs6 {K : List ByteArray} {w : World} {b : Nat} {ty : TypeId} {t : Tm} (h : Hid (w.heap[b]? = some (.cells (tmCells t).toArray ty (0, 0)))) (hv : TmSmK K t) : ∃ t : Tm, TmSmK K t ∧ w.cell? ⟨b, 0, none⟩ = some (.int .i64 t.kind) ∧ w.cell? ⟨b, 1, none⟩ = some (.int .i64 t.op) ∧ w.cell? ⟨b, 2, none⟩ = some (.string t.var) ∧ w.cell? ⟨b, 3, none⟩ = some (.int .i64 t.val.kind) ∧ w.cell? ⟨b, 4, none⟩ = some (.int .i64 t.val.num) ∧ w.cell? ⟨b, 5, none⟩ = some (.string t.val.sym) := ⟨t, hv, box6 h.out⟩

theorem cells6 {w : World} {b : Nat} {ty : TypeId} {x0 x1 x2 x3 x4 x5 : Value} (h : w.heap[b]? = some (.cells #[x0, x1, x2, x3, x4, x5] ty (0, 0))) : w.cell? ⟨b, 0, none⟩ = some x0 ∧ w.cell? ⟨b, 1, none⟩ = some x1 ∧ w.cell? ⟨b, 2, none⟩ = some x2 ∧ w.cell? ⟨b, 3, none⟩ = some x3 ∧ w.cell? ⟨b, 4, none⟩ = some x4 ∧ w.cell? ⟨b, 5, none⟩ = some x5 := by
  refine ⟨?_, ?_, ?_, ?_, ?_, ?_⟩ <;> simp [World.cell?, h]
theorem frozen6 {w : World} {b : Nat} {ty : TypeId} {c : Array Value} (h : w.heap[b]? = some (.cells c ty (0, 0))) (j : Nat) : w.frozen? ⟨b, j, none⟩ = false := by
  simp [World.frozen?, h]
theorem Rs.setOwn {g b o : Nat} {u v : World} {x : Value} (h : Rs g u v) (hb : u.heap.size ≤ b) (hg : g < u.heap.size) : Rs g u (v.setCell ⟨b, o, none⟩ x) :=
  ⟨⟨h.1.rest.setCell (Nat.zero_le _) _, fun k hk hne => (Below.heap_setCell _ _ _ _ (by simp; omega)).trans (h.1.block k hk hne)⟩, h.2.old ((Below.refl _ _).setCell (by simp; omega) _)⟩
set_option maxRecDepth 100000 in
set_option maxHeartbeats 3200000 in
theorem l2DrawTerm_any (K : List ByteArray) (g : Nat) (a : Option Addr) (n cp : Nat) (w : World) (h : Rdr w g) (hs : StrsOn K w g a n) : Calls Tryz.prog 56 #[.pointer (some ⟨g, 0, none⟩), .slice a n cp] w fun e w' => ∃ t : Tm, TmSmK K t ∧ e = .returned (tmV t) ∧ Rs g w w' := by
  have H := hidR h
  have HS := hidR hs
  have hlt := h.lt
  clear h hs
  have HB := hidR (fun o => (H.out.bel ((Below.refl _ _).alloc (Nat.le_refl _) o)))
  go_enter Tryz.func56, Tryz.ntmps56
  go_wp2_with fail
  refine (next_any g _ (HB.out _)).mono ?_
  rintro e w1 ⟨c, hc, rfl, hr⟩
  have hbx := hidR (block_rs hr (heap_alloc_new _ _) (by omega))
  have hR := hidR (((Rs.of H.out ((Below.refl _ _).alloc (Nat.le_refl _) _)).trans hr))
  have hs1 : w.heap.size < w1.heap.size := lt_of_block' hbx.out
  have HS1 := hidR (HS.out.rs hR.out)
  clear hr HB HS
  have HA := hidR (fun o => (Below.refl _ _).alloc (Nat.le_refl _) o : ∀ o, Below w1.heap.size w1 (w1.alloc o))
  have h8 : c % 8 = 0 ∨ (c % 8 = 1 ∨ c % 8 = 2) ∨ c % 8 = 3 ∨ (4 ≤ c % 8) := by omega
  rcases h8 with h8 | h8 | h8 | h8
  · have hB2 := hidR (Below.refl w1.heap.size w1)
    go_wp2_with (first | (refine wpList_store_blk (by rfl) 49 (.tmp 4) (.tmp 13) (by rfl) w.heap.size (tmCells ⟨0, 0, ⟨#[]⟩, (0, 0, ⟨#[]⟩)⟩) (by rfl) (by rfl) _ 49 ((hB2.out.block _ hs1).trans hbx.out) (by rfl) infoTmS (tmCells_one _) ?_; intro w3 hk3 ht3; obtain ⟨t, ht, f0, f1, f2, f3, f4, f5⟩ := abs6 (K := K) hk3 (tk_any K); clear hk3) | fail)
    exact bodyPost_ret (v := tmV t) (by simp [results, Tryz.results56, go_sem, f0, f1, f2, f3, f4, f5, tmV, tmCells]) rfl ⟨t, ht, rfl, (hR.out.bel hB2.out).turned ht3.out (Nat.le_refl _) hlt⟩
  · rcases h8 with h8 | h8
    all_goals
      go_wp2_with fail
      refine (l1Val_any g _ hR.out.2).mono ?_
      rintro e w2 ⟨v, hv, rfl, hr2⟩
      have hbx2 := hidR (block_rs hr2 hbx.out (by omega))
      have hR2 := hidR (hR.out.trans hr2)
      have hs2 := hr2.1.rest.size
      clear hr2 hbx hR
      unfold vV
      go_wp2_with (first | (refine wpList_store_blk (by rfl) 49 (.tmp 4) (.tmp 19) (by rfl) w.heap.size (tmCells ⟨1, 0, ⟨#[]⟩, v⟩) (by rfl) (by rfl) _ 49 (hbx2.out) (by rfl) infoTmS (tmCells_one _) ?_; intro w3 hk3 ht3; obtain ⟨t, ht, f0, f1, f2, f3, f4, f5⟩ := abs6 (K := K) hk3 (tk_const K hv); clear hk3) | fail)
      exact bodyPost_ret (v := tmV t) (by simp [results, Tryz.results56, go_sem, f0, f1, f2, f3, f4, f5, tmV, tmCells]) rfl ⟨t, ht, rfl, hR2.out.turned ht3.out (Nat.le_refl _) hlt⟩
  · have HR1 := hidR (fun o => hR.out.2.bel (HA.out o))
    by_cases hsp : 0 < n ∧ 100 ≤ c
    · obtain ⟨hn0, h100⟩ := hsp
      have hn0' : (0 : Int) < (n : Int) := by omega
      have h100' : (100 : Int) ≤ (c : Int) := by omega
      go_wp2_with fail
      refine (next_any g _ (HR1.out _)).mono ?_
      rintro e w2 ⟨c2, hc2, rfl, hr2⟩
      have hR2 := hidR (((hR.out.bel (HA.out _)).trans hr2))
      have HB6 := hidR (block_rs hr2 (heap_alloc_new _ _) (by omega))
      have hbx2 := hidR (block_rs hr2 (((HA.out _).block _ hs1).trans hbx.out) (by omega))
      have HS2 := hidR ((HS1.out.bel (HA.out _)).rs hr2)
      have hs2 : w1.heap.size < w2.heap.size := lt_of_block' HB6.out
      obtain ⟨k, hk⟩ : ∃ k, k = c2 % n := ⟨_, rfl⟩
      have hkn : k < n := by rw [hk]; exact Nat.mod_lt _ hn0
      have hki : (c2 : Int) % (n : Int) = (k : Int) := by rw [hk]; omega
      have hkI : (k : Int) < (n : Int) := by omega
      have hk0 : (0 : Int) ≤ (k : Int) := by omega
      obtain ⟨b, o, s, rfl, hgb, hss, hcs⟩ := HS2.out.2 k hkn
      obtain ⟨t0, t1, t2, t3, t4, t5⟩ := cells6 HB6.out
      have z2 := frozen6 HB6.out 2
      clear hr2 hk HB6 HS2 hbx hR HA HR1 HS1
      go_wp2_with (first | (refine wpList_store_blk (by rfl) 49 (.tmp 4) (.tmp 46) (by rfl) w.heap.size (tmCells ⟨3, _, s, (0, 0, ⟨#[]⟩)⟩) (by rfl) (by rfl) _ 49 ((Below.heap_setCell _ _ _ _ (by simp; omega)).trans hbx2.out) (by rfl) infoTmS (tmCells_one _) ?_; intro w3 hk3 ht3; obtain ⟨t, ht, f0, f1, f2, f3, f4, f5⟩ := abs6 (K := K) hk3 (tk_testv (by omega) (by omega) hss); clear hk3) | fail)
      exact bodyPost_ret (v := tmV t) (by simp [results, Tryz.results56, go_sem, f0, f1, f2, f3, f4, f5, tmV, tmCells]) rfl ⟨t, ht, rfl, (hR2.out.setOwn (b := w1.heap.size) (by omega) hlt).turned ht3.out (Nat.le_refl _) hlt⟩
    · by_cases hn0 : n = 0
      · subst hn0
        go_wp2_with fail
        refine (l1Val_any g _ (HR1.out _)).mono ?_
        rintro e w2 ⟨v, hv, rfl, hr2⟩
        have hR2 := hidR (((hR.out.bel (HA.out _)).trans hr2))
        have HB6 := hidR (block_rs hr2 (heap_alloc_new _ _) (by omega))
        have hbx2 := hidR (block_rs hr2 (((HA.out _).block _ hs1).trans hbx.out) (by omega))
        have hs2 : w1.heap.size < w2.heap.size := lt_of_block' HB6.out
        obtain ⟨t0, t1, t2, t3, t4, t5⟩ := cells6 HB6.out
        have z3 := frozen6 HB6.out 3
        have z4 := frozen6 HB6.out 4
        have z5 := frozen6 HB6.out 5
        clear hr2 HB6 hbx hR HA HR1 HS1
        unfold vV
        go_wp2_with (first | (refine wpList_store_blk (by rfl) 49 (.tmp 4) (.tmp 46) (by rfl) w.heap.size (tmCells ⟨3, _, ⟨#[]⟩, v⟩) (by rfl) (by rfl) _ 49 ((((Below.heap_setCell _ _ _ _ (by simp; omega)).trans (Below.heap_setCell _ _ _ _ (by simp; omega))).trans (Below.heap_setCell _ _ _ _ (by simp; omega))).trans hbx2.out) (by rfl) infoTmS (tmCells_one _) ?_; intro w3 hk3 ht3; obtain ⟨t, ht, f0, f1, f2, f3, f4, f5⟩ := abs6 (K := K) hk3 (tk_testc K (by omega) (by omega) hv); clear hk3) | fail)
        exact bodyPost_ret (v := tmV t) (by simp [results, Tryz.results56, go_sem, f0, f1, f2, f3, f4, f5, tmV, tmCells]) rfl ⟨t, ht, rfl, (((hR2.out.setOwn (b := w1.heap.size) (by omega) hlt).setOwn (b := w1.heap.size) (by omega) hlt).setOwn (b := w1.heap.size) (by omega) hlt).turned ht3.out (Nat.le_refl _) hlt⟩
      · have hn0' : (0 : Int) < (n : Int) := by omega
        have h100' : ¬ (100 : Int) ≤ (c : Int) := by omega
        go_wp2_with fail
        refine (l1Val_any g _ (HR1.out _)).mono ?_
        rintro e w2 ⟨v, hv, rfl, hr2⟩
        have hR2 := hidR (((hR.out.bel (HA.out _)).trans hr2))
        have HB6 := hidR (block_rs hr2 (heap_alloc_new _ _) (by omega))
        have hbx2 := hidR (block_rs hr2 (((HA.out _).block _ hs1).trans hbx.out) (by omega))
        have hs2 : w1.heap.size < w2.heap.size := lt_of_block' HB6.out
        obtain ⟨t0, t1, t2, t3, t4, t5⟩ := cells6 HB6.out
        have z3 := frozen6 HB6.out 3
        have z4 := frozen6 HB6.out 4
        have z5 := frozen6 HB6.out 5
        clear hr2 HB6 hbx hR HA HR1 HS1
        unfold vV
        go_wp2_with (first | (refine wpList_store_blk (by rfl) 49 (.tmp 4) (.tmp 46) (by rfl) w.heap.size (tmCells ⟨3, _, ⟨#[]⟩, v⟩) (by rfl) (by rfl) _ 49 ((((Below.heap_setCell _ _ _ _ (by simp; omega)).trans (Below.heap_setCell _ _ _ _ (by simp; omega))).trans (Below.heap_setCell _ _ _ _ (by simp; omega))).trans hbx2.out) (by rfl) infoTmS (tmCells_one _) ?_; intro w3 hk3 ht3; obtain ⟨t, ht, f0, f1, f2, f3, f4, f5⟩ := abs6 (K := K) hk3 (tk_testc K (by omega) (by omega) hv); clear hk3) | fail)
        exact bodyPost_ret (v := tmV t) (by simp [results, Tryz.results56, go_sem, f0, f1, f2, f3, f4, f5, tmV, tmCells]) rfl ⟨t, ht, rfl, (((hR2.out.setOwn (b := w1.heap.size) (by omega) hlt).setOwn (b := w1.heap.size) (by omega) hlt).setOwn (b := w1.heap.size) (by omega) hlt).turned ht3.out (Nat.le_refl _) hlt⟩
  · have h8a : ¬ (c : Int) % 8 = 0 := by omega
    have h8b : ¬ (c : Int) % 8 = 1 := by omega
    have h8c : ¬ (c : Int) % 8 = 2 := by omega
    have h8d : ¬ (c : Int) % 8 = 3 := by omega
    have HCV := hidR (show ((c : Int) / 8) = ((c / 8 : Nat) : Int) by omega)
    go_wp2_with fail
    rw [HCV.out]
    refine (l2Name_any (c / 8) _).mono ?_
    rintro e w2 ⟨s, hs, rfl, hb2⟩
    have hB2 := hidR hb2
    have hs2 := hb2.size
    clear hb2
    go_wp2_with (first | (refine wpList_store_blk (by rfl) 49 (.tmp 4) (.tmp 50) (by rfl) w.heap.size (tmCells ⟨2, 0, s, (0, 0, ⟨#[]⟩)⟩) (by rfl) (by rfl) _ 49 ((hB2.out.block _ hs1).trans hbx.out) (by rfl) infoTmS (tmCells_one _) ?_; intro w3 hk3 ht3; obtain ⟨t, ht, f0, f1, f2, f3, f4, f5⟩ := abs6 (K := K) hk3 (tk_var K hs); clear hk3) | fail)
    exact bodyPost_ret (v := tmV t) (by simp [results, Tryz.results56, go_sem, f0, f1, f2, f3, f4, f5, tmV, tmCells]) rfl ⟨t, ht, rfl, (hR.out.bel hB2.out).turned ht3.out (Nat.le_refl _) hlt⟩
end Go.Proofs.YtgkoiojelckblaaGreatDoor

namespace Go.Proofs.YtgkoiojelckblaaGreatDoor
open Go.RowKit
attribute [local go_sem ↓] Go.wp_at_zero Go.wp_at_succ

/-- A part of a block that is known whole is written anew. -/
theorem wpList_store_part {P : Program} {ops : Array Oper} {rest : List Oper} {op : Oper} {a : Act} {w : World} {Q : Exit → Act → World → Prop} (hgd : op.guard = none) (ty : TypeId) (x y : Operand) (ho : op.op = .store ty x y)
    (b o : Nat) (L : List Value) (hx : a.eval x = .pointer (some ⟨b, o, none⟩)) (hy : a.eval y = .agg L.toArray) (c : Array Value) (t : TypeId) (hb : w.heap[b]? = some (.cells c t (0, 0)))
    (hs : o + L.length ≤ c.size) (hi : (P.info? ty).map (·.size) = some L.length) (h1 : ∀ v ∈ L, v.oneCell' = true) (N : Array Value) (hN : (c.toList.take o ++ (L ++ c.toList.drop (o + L.length))).toArray = N)
    (h : ∀ w', Hid (w'.heap[b]? = some (.cells N t (0, 0))) → Hid (Turned w w' b) → wpList P ops Q rest (a.put op.dst undef) w') : wpList P ops Q (op :: rest) a w := by
  refine wpList_store_mid hgd ty x y ho b o L.toArray hx hy (there_blk hb (by simpa using hs)) (by simpa using hi) (all_oneCell_toArray h1) (h _ ?_ (Turned.setCells _ _ _ _))
  show _ = _
  rw [← hN]
  exact heap_setCells_splice hb (o := o) L hs
set_option maxHeartbeats 400000 in
theorem ariths_any (w : World) : Calls Tryz.prog 154 #[] w fun e w' => e = .returned (.slice (some ⟨w.heap.size, 0, none⟩) 5 5) ∧ w' = w.alloc (.cells #[.string ⟨#[43]⟩, .string ⟨#[45]⟩, .string ⟨#[42]⟩, .string ⟨#[47]⟩, .string ⟨#[37]⟩] 9) := by
  go_enter Tryz.func154, Tryz.ntmps154
  go_wp2
  go_ret
  exact ⟨rfl, rfl⟩
def exCells (e : Ex) : List Value := [.int .i64 e.kind, .int .u8 e.op, .string e.var, .int .i64 e.val.kind, .int .i64 e.val.num, .string e.val.sym, .int .i64 e.a, .int .i64 e.b]
/-- What is asked of an expr that was drawn. -/
def ExSm (e : Ex) : Prop := e.var.size ≤ 20 ∧ VSm e.val ∧ 0 ≤ e.op ∧ e.op < 256
theorem exCells_one (e : Ex) : ∀ u ∈ exCells e, u.oneCell' = true := by
  intro u hu
  simp [exCells] at hu
  rcases hu with rfl | rfl | rfl | rfl | rfl | rfl | rfl | rfl <;> rfl
theorem infoExS : (Tryz.prog.info? 138).map (·.size) = some 8 := by kernel_rfl
theorem infoExF : (Tryz.prog.info? 138).map (fun i => (i.zero, i.size, i.bytes)) = some (some (.agg #[.int .i64 0, .int .u8 0, .string ⟨#[]⟩, .int .i64 0, .int .i64 0, .string ⟨#[]⟩, .int .i64 0, .int .i64 0]), 8, 80) := by kernel_rfl
theorem box8 {w : World} {b : Nat} {ty : TypeId} {e : Ex} (h : w.heap[b]? = some (.cells (exCells e).toArray ty (0, 0))) : w.cell? ⟨b, 0, none⟩ = some (.int .i64 e.kind) ∧ w.cell? ⟨b, 1, none⟩ = some (.int .u8 e.op) ∧ w.cell? ⟨b, 2, none⟩ = some (.string e.var) ∧ w.cell? ⟨b, 3, none⟩ = some (.int .i64 e.val.kind) ∧ w.cell? ⟨b, 4, none⟩ = some (.int .i64 e.val.num) ∧ w.cell? ⟨b, 5, none⟩ = some (.string e.val.sym) ∧ w.cell? ⟨b, 6, none⟩ = some (.int .i64 e.a) ∧ w.cell? ⟨b, 7, none⟩ = some (.int .i64 e.b) := by
  refine ⟨?_, ?_, ?_, ?_, ?_, ?_, ?_, ?_⟩ <;> simp [World.cell?, h, exCells]
/-- A rule in its box, its exprs an owned row. -/
def QB (w : World) (b base : Nat) (x0 x1 x2 x4 : Value) (a : Option Addr) (c : Nat) (xs : List Ex) : Prop :=
  w.heap[b]? = some (.cells #[x0, x1, x2, .slice a xs.length c, x4] 41 (0, 0)) ∧ w.ownsRow base 138 8 (.slice a xs.length c) xs.length (xs.flatMap exCells) ∧ ∀ x ∈ xs, ExSm x
/-- What a draw for a rule leaves: only the reader's box, the rule's and the row o were written. -/
structure Qs (g b : Nat) (o : Option Nat) (w w' : World) : Prop where
  rest : Below 0 w w'
  block : ∀ k, k < w.heap.size → k ≠ g → k ≠ b → o ≠ some k → w'.heap[k]? = w.heap[k]?
  rdr : Rdr w' g
theorem Qs.of {g b : Nat} {o : Option Nat} {w w' : World} (h : Rs g w w') : Qs g b o w w' := ⟨h.1.rest, fun k hk hg _ _ => h.1.block k hk (fun e => hg (by injection e with e; exact e.symm)), h.2⟩
/-- The row behind: the same block, or a new one. -/
def NewOr (N : Nat) (o o' : Option Nat) : Prop := o' = o ∨ ∀ k, o' = some k → N ≤ k
theorem NewOr.refl (N : Nat) (o : Option Nat) : NewOr N o o := .inl rfl
theorem NewOr.trans {N N' : Nat} {o o' o'' : Option Nat} (h : NewOr N o o') (h' : NewOr N' o' o'') (hN : N ≤ N') : NewOr N o o'' := by
  rcases h' with rfl | h'
  · exact h
  · exact .inr fun k hk => Nat.le_trans hN (h' k hk)
theorem Qs.trans {g b : Nat} {o o' : Option Nat} {u v w : World} (h : Qs g b o u v) (k : Qs g b o' v w) (hn : NewOr u.heap.size o o') : Qs g b o u w := by
  refine ⟨h.rest.trans k.rest, fun j hj hg hb ho => ?_, k.rdr⟩
  refine (k.block j (Nat.lt_of_lt_of_le hj h.rest.size) hg hb ?_).trans (h.block j hj hg hb ho)
  rcases hn with rfl | hn
  · exact ho
  · exact fun e => absurd (hn j e) (by omega)
theorem QB.rs {w w' : World} {g b base : Nat} {x0 x1 x2 x4 : Value} {a : Option Addr} {c : Nat} {xs : List Ex} (h : QB w b base x0 x1 x2 x4 a c xs) (hr : Rs g w w') (hb : b ≠ g) (hg : g < base) : QB w' b base x0 x1 x2 x4 a c xs :=
  ⟨block_rs hr h.1 hb, owns_of_block h.2.1 (fun k hk => hr.1.block k (h.2.1.lt k hk).2 (fun e => by injection e with e; have := (h.2.1.lt k hk).1; omega)), h.2.2⟩
theorem QB.bel {w w' : World} {b base : Nat} {x0 x1 x2 x4 : Value} {a : Option Addr} {c : Nat} {xs : List Ex} (h : QB w b base x0 x1 x2 x4 a c xs) (hb : Below w.heap.size w w') : QB w' b base x0 x1 x2 x4 a c xs :=
  ⟨(hb.block b (lt_of_block' h.1)).trans h.1, owns_of_block h.2.1 (fun k hk => hb.block k (h.2.1.lt k hk).2), h.2.2⟩
theorem QB.turned {w w' : World} {b base d : Nat} {x0 x1 x2 x4 : Value} {a : Option Addr} {c : Nat} {xs : List Ex} (h : QB w b base x0 x1 x2 x4 a c xs) (ht : Turned w w' d) (hd : d ≠ b) (ho : (Value.slice a xs.length c).ownBlock ≠ some d) : QB w' b base x0 x1 x2 x4 a c xs :=
  ⟨(ht.block b (Ne.symm hd)).trans h.1, owns_of_block h.2.1 (fun k hk => ht.block k (fun e => ho (by rw [hk, e]))), h.2.2⟩
/-- Words that lie in blocks that a draw for a rule leaves. -/
def StrsQ (K : List ByteArray) (w : World) (g b base : Nat) (a : Option Addr) (n : Nat) : Prop := n ≤ 1048576 ∧ ∀ j, j < n → ∃ (k o : Nat) (s : ByteArray), a = some ⟨k, o, none⟩ ∧ g < k ∧ k ≠ b ∧ k < base ∧ GK K s ∧ w.cell? ⟨k, o + j, none⟩ = some (.string s)
theorem StrsQ.keep {K : List ByteArray} {w w' : World} {g b base : Nat} {a : Option Addr} {n : Nat} (h : StrsQ K w g b base a n) (hk : ∀ k, k < base → k < w.heap.size → g < k → k ≠ b → w'.heap[k]? = w.heap[k]?) : StrsQ K w' g b base a n := by
  refine ⟨h.1, fun j hj => ?_⟩
  obtain ⟨k, o, s, h1, h2, h3, h4, h5, h6⟩ := h.2 j hj
  refine ⟨k, o, s, h1, h2, h3, h4, h5, ?_⟩
  rw [← h6]
  exact World.cell?_of_block (w := w) (hk k h4 (World.block_lt_of_cell? w ⟨k, _, none⟩ h6) h2 h3)
theorem StrsQ.qs {K : List ByteArray} {w w' : World} {g b base : Nat} {o : Option Nat} {a : Option Addr} {n : Nat} (h : StrsQ K w g b base a n) (hq : Qs g b o w w') (ho : ∀ k, o = some k → base ≤ k) : StrsQ K w' g b base a n :=
  h.keep (fun k hk hl hg hb => hq.block k hl (by omega) hb (fun e => by have := ho k e; omega))
def fD : Nat → Nat
  | 0 => 1
  | d + 1 => 2 * fD d + 1

/-- What is left behind a draw of an expr. -/
def QPost (K : List ByteArray) (g b base : Nat) (x0 x1 x2 x4 : Value) (a : Option Addr) (c : Nat) (xs : List Ex) (d : Nat) (w : World) (e : Ending) (w' : World) : Prop :=
  ∃ a' c' xs', QB w' b base x0 x1 x2 x4 a' c' xs' ∧ xs.length + 1 ≤ xs'.length ∧ xs'.length ≤ xs.length + fD d ∧ e = .returned (.int .i64 ((xs'.length : Int) - 1)) ∧ Qs g b (Value.slice a xs.length c).ownBlock w w' ∧ NewOr w.heap.size (Value.slice a xs.length c).ownBlock (Value.slice a' xs'.length c').ownBlock ∧ (∃ ys, xs' = xs ++ ys ∧ Tree K d xs.length ys) ∧ (52 ≤ xs.length → xs'.length ≤ xs.length + 1)
/-- An expr is put behind those that are there: what the last lines do, as a lemma over worlds. -/
theorem q_put {g b base : Nat} {x0 x1 x2 x4 : Value} {a1 : Option Addr} {c1 : Nat} {xs1 : List Ex} {u wt wa w3 : World} {o : Option Nat} {E : Ex} {a3 : Option Addr} {c3 : Nat} (hq : QB wt b base x0 x1 x2 x4 a1 c1 xs1) (hE : ExSm E) (hQ : Qs g b o u wt) (hN : NewOr u.heap.size o (Value.slice a1 xs1.length c1).ownBlock)
    (hwa : Below wt.heap.size wt wa) (ho : w3.ownsRow base 138 8 (.slice a3 (xs1.length + 1) c3) (xs1.length + 1) (xs1.flatMap exCells ++ exCells E)) (hg : wa.grownBy w3 (Value.slice a1 xs1.length c1).ownBlock)
    (hl : (Value.slice a3 (xs1.length + 1) c3).ownBlock = (Value.slice a1 xs1.length c1).ownBlock ∨ (Value.slice a3 (xs1.length + 1) c3).ownBlock = some wa.heap.size) (hgb : g < b) (hbb : b < base) (_hbase : base ≤ wt.heap.size) :
    QB (w3.setCell ⟨b, 3, none⟩ (.slice a3 (xs1.length + 1) c3)) b base x0 x1 x2 x4 a3 c3 (xs1 ++ [E]) ∧ Qs g b o u (w3.setCell ⟨b, 3, none⟩ (.slice a3 (xs1.length + 1) c3)) ∧ NewOr u.heap.size o (Value.slice a3 (xs1.length + 1) c3).ownBlock := by
  have hob : ∀ k, (Value.slice a1 xs1.length c1).ownBlock = some k → base ≤ k ∧ k < wt.heap.size := fun k hk => hq.2.1.lt k hk
  have hblt : b < wt.heap.size := lt_of_block' hq.1
  have e3 : w3.heap[b]? = some (.cells #[x0, x1, x2, .slice a1 xs1.length c1, x4] 41 (0, 0)) := by
    refine (hg.block b (Nat.lt_of_lt_of_le hblt hwa.size) (fun e => ?_)).trans ((hwa.block b hblt).trans hq.1)
    have := (hob b e.symm).1
    omega
  have ho3 : ∀ k, (Value.slice a3 (xs1.length + 1) c3).ownBlock = some k → base ≤ k := fun k hk => (ho.lt k hk).1
  refine ⟨⟨?_, ?_, ?_⟩, ⟨?_, ?_, ?_⟩, ?_⟩
  · have := heap_setCell_same (i := 3) e3 (.slice a3 (xs1.length + 1) c3)
    simpa using this
  · have := owns_of_block (w' := w3.setCell ⟨b, 3, none⟩ (.slice a3 (xs1.length + 1) c3)) ho (fun k hk => Below.heap_setCell _ _ _ _ (by have := ho3 k hk; simp; omega))
    simpa using this
  · intro x hx
    rcases List.mem_append.1 hx with h | h
    · exact hq.2.2 x h
    · simp at h
      exact h ▸ hE
  · refine Below.setCell ?_ (Nat.zero_le _) _
    exact (hQ.rest.trans (hwa.mono (Nat.zero_le _))).grown hg (Nat.zero_le _) (fun _ _ => Nat.zero_le _)
  · intro k hk h1 h2 h3
    have hk2 : k < wt.heap.size := Nat.lt_of_lt_of_le hk hQ.rest.size
    refine (Below.heap_setCell _ _ _ _ (by simpa using h2)).trans ?_
    refine (hg.block k (Nat.lt_of_lt_of_le hk2 hwa.size) (fun e => ?_)).trans ((hwa.block k hk2).trans (hQ.block k hk h1 h2 h3))
    rcases hN with hN | hN
    · exact h3 (by rw [← hN, e])
    · have := hN k e.symm
      omega
  · refine Rdr.old hQ.rdr ?_
    refine Below.setCell ?_ (by simp; omega) _
    exact (hwa.mono (by omega)).grown hg (by have := hwa.size; omega) (fun k hk => by have := (hob k hk).1; omega)
  · rcases hl with h | h
    · rw [h]
      exact hN
    · refine .inr fun k hk => ?_
      rw [h] at hk
      injection hk with hk
      have := hQ.rest.size
      have := hwa.size
      omega

theorem absE {w : World} {b : Nat} {t : TypeId} {op p q : Int} (h : Hid (w.heap[b]? = some (.cells (exCells ⟨2, op, ⟨#[]⟩, (0, 0, ⟨#[]⟩), p, q⟩).toArray t (0, 0)))) (hE : isAr op = true) (h0 : 0 ≤ op) (h1 : op < 256) : ∃ E, ExSm E ∧ (∃ op, isAr op = true ∧ E = opE op p q) ∧ Hid (w.heap[b]? = some (.cells (exCells E).toArray t (0, 0))) := ⟨opE op p q, ⟨Nat.zero_le 20, vsm_zero, h0, h1⟩, ⟨op, hE, rfl⟩, h⟩
theorem tree_op {K : List ByteArray} {d : Nat} {xs xs2 xs4 : List Ex} {E : Ex} (h2 : ∃ ys, xs2 = xs ++ ys ∧ Tree K d xs.length ys) (h4 : ∃ ys, xs4 = xs2 ++ ys ∧ Tree K d xs2.length ys) (hE : ∃ op, isAr op = true ∧ E = opE op ((xs2.length : Int) - 1) ((xs4.length : Int) - 1)) : ∃ ys, xs4 ++ [E] = xs ++ ys ∧ Tree K (d + 1) xs.length ys := by
  obtain ⟨A, rfl, hA⟩ := h2
  obtain ⟨B, rfl, hB⟩ := h4
  obtain ⟨op, ho, rfl⟩ := hE
  refine ⟨A ++ (B ++ [opE op (((xs ++ A).length : Int) - 1) (((xs ++ A ++ B).length : Int) - 1)]), by simp, .inr ⟨A, B, op, ho, hA, by simpa using hB, ?_⟩⟩
  simp [Nat.add_assoc]
theorem Qs.bel {g b : Nat} {o : Option Nat} {u v w : World} (h : Qs g b o u v) (hb : Below v.heap.size v w) : Qs g b o u w :=
  ⟨h.rest.trans (hb.mono (Nat.zero_le _)), fun k hk h1 h2 h3 => (hb.block k (Nat.lt_of_lt_of_le hk h.rest.size)).trans (h.block k hk h1 h2 h3), h.rdr.bel hb⟩
theorem Qs.turned {g b d : Nat} {o : Option Nat} {u v w : World} (h : Qs g b o u v) (ht : Turned v w d) (hd : u.heap.size ≤ d) (hg : g < u.heap.size) : Qs g b o u w :=
  ⟨h.rest.trans (ht.below (Nat.zero_le _)), fun k hk h1 h2 h3 => (ht.block k (by omega)).trans (h.block k hk h1 h2 h3), h.rdr.old (ht.below (by omega))⟩
theorem NewOr.mono {N N' : Nat} {o o' : Option Nat} (h : NewOr N' o o') (hN : N ≤ N') : NewOr N o o' := by
  rcases h with h | h
  · exact .inl h
  · exact .inr fun k hk => Nat.le_trans hN (h k hk)
theorem q_cells {b base : Nat} {x0 x1 x2 x4 : Value} {a1 : Option Addr} {c1 : Nat} {xs1 : List Ex} {wt wa w3 : World} (hq : QB wt b base x0 x1 x2 x4 a1 c1 xs1) (hwa : Below wt.heap.size wt wa) (hg : wa.grownBy w3 (Value.slice a1 xs1.length c1).ownBlock) (hbb : b < base) :
    w3.cell? ⟨b, 3, none⟩ = some (.slice a1 xs1.length c1) ∧ w3.frozen? ⟨b, 3, none⟩ = false := by
  have hblt : b < wt.heap.size := lt_of_block' hq.1
  have e3 : w3.heap[b]? = some (.cells #[x0, x1, x2, .slice a1 xs1.length c1, x4] 41 (0, 0)) := by
    refine (hg.block b (Nat.lt_of_lt_of_le hblt hwa.size) (fun e => ?_)).trans ((hwa.block b hblt).trans hq.1)
    have := (hq.2.1.lt b e.symm).1
    omega
  exact ⟨by simp [World.cell?, e3], by simp [World.frozen?, e3]⟩
theorem QB.grown {w w' : World} {b base : Nat} {x0 x1 x2 x4 : Value} {a : Option Addr} {c : Nat} {xs : List Ex} {row : Option Nat} {t : TypeId} (h : QB w b base x0 x1 x2 x4 a c xs) (hg : w.grownBy w' row) (ht : ∀ k, row = some k → ∃ c, w.heap[k]? = some (.cells c t (0, 0))) (h1 : t ≠ 41) (h2 : t ≠ 138) : QB w' b base x0 x1 x2 x4 a c xs := by
  refine ⟨(hg.block b (lt_of_block' h.1) (fun e => ?_)).trans h.1, owns_of_block h.2.1 (fun k hk => hg.block k (h.2.1.lt k hk).2 (fun e => ?_)), h.2.2⟩
  · obtain ⟨c', hc⟩ := ht b e.symm
    exact own_far hc h.1 h1
  · obtain ⟨c', hc⟩ := ht k e.symm
    obtain ⟨c'', hc'⟩ := own_type h.2.1 hk
    exact own_far hc hc' h2
theorem Qs.grown {g b : Nat} {o row : Option Nat} {u v w : World} (h : Qs g b o u v) (hg : v.grownBy w row) (hr : ∀ k, row = some k → u.heap.size ≤ k) (hgu : g < u.heap.size) : Qs g b o u w := by
  refine ⟨h.rest.grown hg (Nat.zero_le _) (fun _ _ => Nat.zero_le _), fun k hk h1 h2 h3 => (hg.block k (Nat.lt_of_lt_of_le hk h.rest.size) (fun e => ?_)).trans (h.block k hk h1 h2 h3), h.rdr.old ((Below.refl _ _).grown hg (by have := h.rest.size; omega) (fun k hk => by have := hr k hk; omega))⟩
  have := hr k e.symm
  omega
theorem own_qs {w w' : World} {base g b : Nat} {o : Option Nat} {e t : TypeId} {m : Nat} {v : Value} {n : Nat} {xs : List Value} (h : w.ownsRow base e m v n xs) (hq : Qs g b o w w') (hg : g < base) (hb : b < base) (ht : ∀ k, o = some k → ∃ c, w.heap[k]? = some (.cells c t (0, 0))) (hne : t ≠ e) : w'.ownsRow base e m v n xs := by
  refine owns_of_block h fun k hk => hq.block k (h.lt k hk).2 (by have := (h.lt k hk).1; omega) (by have := (h.lt k hk).1; omega) (fun e => ?_)
  obtain ⟨c, hc⟩ := ht k e
  obtain ⟨c', hc'⟩ := own_type h hk
  exact own_far hc hc' hne
end Go.Proofs.YtgkoiojelckblaaGreatDoor

namespace Go.Proofs.YtgkoiojelckblaaGreatDoor
open Go.RowKit
attribute [local go_sem ↓] Go.wp_at_zero Go.wp_at_succ

set_option maxRecDepth 100000 in
set_option maxHeartbeats 6400000 in
theorem expr_step (K : List ByteArray) (g b base : Nat) (x0 x1 x2 x4 : Value) (ka : Option Addr) (kn kc : Nat) (hgb : g < b) (hbb : b < base) (d : Nat) (a : Option Addr) (c : Nat) (xs : List Ex) (w : World) (hd : d ≤ 8) (h : Rdr w g) (hq : QB w b base x0 x1 x2 x4 a c xs) (hk : StrsQ K w g b base ka kn) (hbase : base ≤ w.heap.size) (hlen : xs.length + fD d ≤ 100000)
    (IH : ∀ d', d = d' + 1 → ∀ (a : Option Addr) (c : Nat) (xs : List Ex) (w : World), Rdr w g → QB w b base x0 x1 x2 x4 a c xs → StrsQ K w g b base ka kn → base ≤ w.heap.size → xs.length + fD d' ≤ 100000 → Calls Tryz.prog 102 #[.pointer (some ⟨g, 0, none⟩), .pointer (some ⟨b, 0, none⟩), .slice ka kn kc, .int .i64 (d' : Int)] w (QPost K g b base x0 x1 x2 x4 a c xs d' w)) :
    Calls Tryz.prog 102 #[.pointer (some ⟨g, 0, none⟩), .pointer (some ⟨b, 0, none⟩), .slice ka kn kc, .int .i64 (d : Int)] w (QPost K g b base x0 x1 x2 x4 a c xs d w) := by
  have hfd : 1 ≤ fD d := by cases d <;> simp [fD]
  have HIH := hidR IH
  have H := hidR h
  have hlt := h.lt
  clear h IH
  go_enter Tryz.func102, Tryz.ntmps102
  go_wp2_with fail
  refine (next_any g _ H.out).mono ?_
  rintro e w1 ⟨u, hu, rfl, hr⟩
  have hR1 := hidR hr
  have HQ1 := hidR (hq.rs hr (by omega) (by omega))
  have HK1 := hidR (hk.keep (w' := w1) (fun k _ hl hg _ => hr.1.block k hl (fun e => by injection e with e; omega)))
  have hs1 := hr.1.rest.size
  have HOL := hidR (fun k (e : (Value.slice a xs.length c).ownBlock = some k) => (HQ1.out.2.1.lt k e).2)
  have hb1 : b < w1.heap.size := lt_of_block' HQ1.out.1
  have c3 : w1.cell? ⟨b, 3, none⟩ = some (.slice a xs.length c) := by simp [World.cell?, HQ1.out.1]
  have HA := hidR (fun o => (Below.refl _ _).alloc (Nat.le_refl _) o : ∀ o, Below w1.heap.size w1 (w1.alloc o))
  have HR1 := hidR (fun o => hR1.out.2.bel (HA.out o))
  have hlen1 : xs.length + 1 ≤ 100000 := by omega
  clear hr hq hk H
  by_cases h5 : u % 5 = 0
  · by_cases hk0 : kn = 0
    · subst hk0
      go_wp2_with fail
      refine (l1Val_any g _ (HR1.out _)).mono ?_
      rintro e w2 ⟨v, hv, rfl, hr2⟩
      have hR2 := hidR ((hR1.out.bel (HA.out _)).trans hr2)
      have HEB := hidR (block_rs hr2 (heap_alloc_new _ _) (by omega))
      have HQ2 := hidR ((HQ1.out.bel (HA.out _)).rs hr2 (by omega) (by omega))
      clear hr2
      unfold vV
      go_wp2_with (first | (refine wpList_store_part (by rfl) 47 (.tmp 18) (.tmp 17) (by rfl) w1.heap.size 3 (V.cells v) (by rfl) (by rfl) _ 138 HEB.out (by simp [V.cells]) infoVS (V.cells_one _) (exCells ⟨0, 0, ⟨#[]⟩, v, 0, 0⟩).toArray (by rfl) ?_; intro wt hE ht) | fail)
      obtain ⟨E, hEE⟩ : ∃ E : Ex, E = ⟨0, 0, ⟨#[]⟩, v, 0, 0⟩ := ⟨_, rfl⟩
      have hEs : ExSm E := by rw [hEE]; exact ⟨Nat.zero_le 20, hv, Int.le_refl 0, (by decide : (0 : Int) < 256)⟩
      have hEl : Leaf K E := by rw [hEE]; exact .inl ⟨v, hv.2.2.2.2, rfl⟩
      rw [← hEE] at hE
      have HQ := hidR (HQ2.out.turned ht.out (by omega) (fun e => by have := HOL.out _ e; omega))
      have hQs := hidR (Qs.of (b := b) (o := (Value.slice a xs.length c).ownBlock) (hR2.out.turned ht.out (by omega) hlt))
      have hN := hidR (NewOr.refl w.heap.size (Value.slice a xs.length c).ownBlock)
      have hsT : base ≤ wt.heap.size := by have := hQs.out.rest.size; omega
      clear HQ2 HQ1 hR1 HR1 hR2 HEB HOL HA ht hEE hv c3
      have hbT : b < wt.heap.size := lt_of_block' HQ.out.1
      have cq3 : wt.cell? ⟨b, 3, none⟩ = some (.slice a xs.length c) := by simp [World.cell?, HQ.out.1]
      obtain ⟨t0, t1, t2, t3, t4, t5, t6, t7⟩ := box8 hE.out
      have HOW := hidR (fun W (h : Below wt.heap.size wt W) => owns_of_block HQ.out.2.1 (fun k hk => h.block k (HQ.out.2.1.lt k hk).2))
      have HWA := hidR (fun o => (Below.refl wt.heap.size wt).drew.alloc (Nat.le_refl _) o : ∀ o, Below wt.heap.size wt (wt.drew.alloc o))
      go_wp2_with fail
      go_region_law (refine step_append_any (by rfl) (.tmp 79) (.tmp 81) 38 (by rfl) base 138 _ 8 80 Tryz.underlying38 infoExF (by rfl) (by omega) _ xs.length _ (by rfl) (HOW.out _ ?_) (some ⟨_, 0, none⟩) 1 1 (by rfl) (exCells E) (by rfl) (fun e => by cases e) (news_new _ _ _ _ (by simp)) (exCells_one E) (by unfold maxLen; omega) (by omega) (by first | (simp; omega) | omega) ?_; exact HWA.out _; intro a3 c3 w3 ho3 hg3 hl3; obtain ⟨k3, z3⟩ := q_cells HQ.out (HWA.out _) hg3.out hbb)
      all_goals
        go_wp2_with fail
        go_ret
        obtain ⟨r1, r2, r3⟩ := q_put HQ.out hEs hQs.out hN.out (HWA.out _) ho3.out hg3.out hl3.out hgb hbb (by omega)
        exact ⟨a3, c3, xs ++ [E], r1, by first | (simp; done) | (simp; omega), by first | (simp; done) | (simp; omega), ret_int (by simp), r2, by simpa using r3, ⟨[E], rfl, Tree.leaf hEl⟩, fun _ => by simp⟩
    · have hk0' : (0 : Int) < (kn : Int) := by omega
      obtain ⟨k, hk⟩ : ∃ k, k = u / 5 % kn := ⟨_, rfl⟩
      have hkn : k < kn := by rw [hk]; exact Nat.mod_lt _ (by omega)
      have hki : (u : Int) / 5 % (kn : Int) = (k : Int) := by rw [hk]; first | (norm_cast; done) | (simp; done) | (push_cast; rfl)
      have hkI : (k : Int) < (kn : Int) := by omega
      have hk00 : (0 : Int) ≤ (k : Int) := by omega
      obtain ⟨kb, ko, sw, rfl, hgk, hkb, hkbase, hss, hcs⟩ := HK1.out.2 k hkn
      have hkb1 : kb < w1.heap.size := by omega
      clear hk
      go_wp2_with (first | (refine wpList_store_blk (by rfl) 138 (.tmp 10) (.tmp 74) (by rfl) w1.heap.size (exCells ⟨1, 0, sw, (0, 0, ⟨#[]⟩), 0, 0⟩) (by rfl) (by rfl) _ 138 (heap_alloc_new _ _) (by rfl) infoExS (exCells_one _) ?_; intro wt hE ht) | fail)
      obtain ⟨E, hEE⟩ : ∃ E : Ex, E = ⟨1, 0, sw, (0, 0, ⟨#[]⟩), 0, 0⟩ := ⟨_, rfl⟩
      have hEs : ExSm E := by rw [hEE]; exact ⟨hss.1, vsm_zero, Int.le_refl 0, (by decide : (0 : Int) < 256)⟩
      have hEl : Leaf K E := by rw [hEE]; exact .inr ⟨sw, hss.2.2, rfl⟩
      rw [← hEE] at hE
      have HQ := hidR ((HQ1.out.bel (HA.out _)).turned ht.out (by omega) (fun e => by have := HOL.out _ e; omega))
      have hQs := hidR (Qs.of (b := b) (o := (Value.slice a xs.length c).ownBlock) ((hR1.out.bel (HA.out _)).turned ht.out (by omega) hlt))
      have hN := hidR (NewOr.refl w.heap.size (Value.slice a xs.length c).ownBlock)
      have hsT : base ≤ wt.heap.size := by have := hQs.out.rest.size; omega
      clear HQ1 hR1 HR1 HOL HA ht hEE c3 hki hcs HK1
      have hbT : b < wt.heap.size := lt_of_block' HQ.out.1
      have cq3 : wt.cell? ⟨b, 3, none⟩ = some (.slice a xs.length c) := by simp [World.cell?, HQ.out.1]
      obtain ⟨t0, t1, t2, t3, t4, t5, t6, t7⟩ := box8 hE.out
      have HOW := hidR (fun W (h : Below wt.heap.size wt W) => owns_of_block HQ.out.2.1 (fun k hk => h.block k (HQ.out.2.1.lt k hk).2))
      have HWA := hidR (fun o => (Below.refl wt.heap.size wt).drew.alloc (Nat.le_refl _) o : ∀ o, Below wt.heap.size wt (wt.drew.alloc o))
      go_wp2_with fail
      go_region_law (refine step_append_any (by rfl) (.tmp 79) (.tmp 81) 38 (by rfl) base 138 _ 8 80 Tryz.underlying38 infoExF (by rfl) (by omega) _ xs.length _ (by rfl) (HOW.out _ ?_) (some ⟨_, 0, none⟩) 1 1 (by rfl) (exCells E) (by rfl) (fun e => by cases e) (news_new _ _ _ _ (by simp)) (exCells_one E) (by unfold maxLen; omega) (by omega) (by first | (simp; omega) | omega) ?_; exact HWA.out _; intro a3 c3 w3 ho3 hg3 hl3; obtain ⟨k3, z3⟩ := q_cells HQ.out (HWA.out _) hg3.out hbb)
      all_goals
        go_wp2_with fail
        go_ret
        obtain ⟨r1, r2, r3⟩ := q_put HQ.out hEs hQs.out hN.out (HWA.out _) ho3.out hg3.out hl3.out hgb hbb (by omega)
        exact ⟨a3, c3, xs ++ [E], r1, by first | (simp; done) | (simp; omega), by first | (simp; done) | (simp; omega), ret_int (by simp), r2, by simpa using r3, ⟨[E], rfl, Tree.leaf hEl⟩, fun _ => by simp⟩
  have h5' : ¬ (u : Int) % 5 = 0 := by omega
  by_cases h52 : u % 5 ≤ 2
  · have h52' : ¬ (2 : Int) < (u : Int) % 5 := by omega
    go_wp2_with fail
    refine (l1Val_any g _ (HR1.out _)).mono ?_
    rintro e w2 ⟨v, hv, rfl, hr2⟩
    have hR2 := hidR ((hR1.out.bel (HA.out _)).trans hr2)
    have HEB := hidR (block_rs hr2 (heap_alloc_new _ _) (by omega))
    have HQ2 := hidR ((HQ1.out.bel (HA.out _)).rs hr2 (by omega) (by omega))
    clear hr2
    unfold vV
    go_wp2_with (first | (refine wpList_store_part (by rfl) 47 (.tmp 18) (.tmp 17) (by rfl) w1.heap.size 3 (V.cells v) (by rfl) (by rfl) _ 138 HEB.out (by simp [V.cells]) infoVS (V.cells_one _) (exCells ⟨0, 0, ⟨#[]⟩, v, 0, 0⟩).toArray (by rfl) ?_; intro wt hE ht) | fail)
    obtain ⟨E, hEE⟩ : ∃ E : Ex, E = ⟨0, 0, ⟨#[]⟩, v, 0, 0⟩ := ⟨_, rfl⟩
    have hEs : ExSm E := by rw [hEE]; exact ⟨Nat.zero_le 20, hv, Int.le_refl 0, (by decide : (0 : Int) < 256)⟩
    have hEl : Leaf K E := by rw [hEE]; exact .inl ⟨v, hv.2.2.2.2, rfl⟩
    rw [← hEE] at hE
    have HQ := hidR (HQ2.out.turned ht.out (by omega) (fun e => by have := HOL.out _ e; omega))
    have hQs := hidR (Qs.of (b := b) (o := (Value.slice a xs.length c).ownBlock) (hR2.out.turned ht.out (by omega) hlt))
    have hN := hidR (NewOr.refl w.heap.size (Value.slice a xs.length c).ownBlock)
    have hsT : base ≤ wt.heap.size := by have := hQs.out.rest.size; omega
    clear HQ2 HQ1 hR1 HR1 hR2 HEB HOL HA ht hEE hv c3
    have hbT : b < wt.heap.size := lt_of_block' HQ.out.1
    have cq3 : wt.cell? ⟨b, 3, none⟩ = some (.slice a xs.length c) := by simp [World.cell?, HQ.out.1]
    obtain ⟨t0, t1, t2, t3, t4, t5, t6, t7⟩ := box8 hE.out
    have HOW := hidR (fun W (h : Below wt.heap.size wt W) => owns_of_block HQ.out.2.1 (fun k hk => h.block k (HQ.out.2.1.lt k hk).2))
    have HWA := hidR (fun o => (Below.refl wt.heap.size wt).drew.alloc (Nat.le_refl _) o : ∀ o, Below wt.heap.size wt (wt.drew.alloc o))
    go_wp2_with fail
    go_region_law (refine step_append_any (by rfl) (.tmp 79) (.tmp 81) 38 (by rfl) base 138 _ 8 80 Tryz.underlying38 infoExF (by rfl) (by omega) _ xs.length _ (by rfl) (HOW.out _ ?_) (some ⟨_, 0, none⟩) 1 1 (by rfl) (exCells E) (by rfl) (fun e => by cases e) (news_new _ _ _ _ (by simp)) (exCells_one E) (by unfold maxLen; omega) (by omega) (by first | (simp; omega) | omega) ?_; exact HWA.out _; intro a3 c3 w3 ho3 hg3 hl3; obtain ⟨k3, z3⟩ := q_cells HQ.out (HWA.out _) hg3.out hbb)
    all_goals
      go_wp2_with fail
      go_ret
      obtain ⟨r1, r2, r3⟩ := q_put HQ.out hEs hQs.out hN.out (HWA.out _) ho3.out hg3.out hl3.out hgb hbb (by omega)
      exact ⟨a3, c3, xs ++ [E], r1, by first | (simp; done) | (simp; omega), by first | (simp; done) | (simp; omega), ret_int (by simp), r2, by simpa using r3, ⟨[E], rfl, Tree.leaf hEl⟩, fun _ => by simp⟩
  have h52' : (2 : Int) < (u : Int) % 5 := by omega
  by_cases hd0 : d = 0
  · subst hd0
    go_wp2_with fail
    refine (l1Val_any g _ (HR1.out _)).mono ?_
    rintro e w2 ⟨v, hv, rfl, hr2⟩
    have hR2 := hidR ((hR1.out.bel (HA.out _)).trans hr2)
    have HEB := hidR (block_rs hr2 (heap_alloc_new _ _) (by omega))
    have HQ2 := hidR ((HQ1.out.bel (HA.out _)).rs hr2 (by omega) (by omega))
    clear hr2
    unfold vV
    go_wp2_with (first | (refine wpList_store_part (by rfl) 47 (.tmp 18) (.tmp 17) (by rfl) w1.heap.size 3 (V.cells v) (by rfl) (by rfl) _ 138 HEB.out (by simp [V.cells]) infoVS (V.cells_one _) (exCells ⟨0, 0, ⟨#[]⟩, v, 0, 0⟩).toArray (by rfl) ?_; intro wt hE ht) | fail)
    obtain ⟨E, hEE⟩ : ∃ E : Ex, E = ⟨0, 0, ⟨#[]⟩, v, 0, 0⟩ := ⟨_, rfl⟩
    have hEs : ExSm E := by rw [hEE]; exact ⟨Nat.zero_le 20, hv, Int.le_refl 0, (by decide : (0 : Int) < 256)⟩
    have hEl : Leaf K E := by rw [hEE]; exact .inl ⟨v, hv.2.2.2.2, rfl⟩
    rw [← hEE] at hE
    have HQ := hidR (HQ2.out.turned ht.out (by omega) (fun e => by have := HOL.out _ e; omega))
    have hQs := hidR (Qs.of (b := b) (o := (Value.slice a xs.length c).ownBlock) (hR2.out.turned ht.out (by omega) hlt))
    have hN := hidR (NewOr.refl w.heap.size (Value.slice a xs.length c).ownBlock)
    have hsT : base ≤ wt.heap.size := by have := hQs.out.rest.size; omega
    clear HQ2 HQ1 hR1 HR1 hR2 HEB HOL HA ht hEE hv c3
    have hbT : b < wt.heap.size := lt_of_block' HQ.out.1
    have cq3 : wt.cell? ⟨b, 3, none⟩ = some (.slice a xs.length c) := by simp [World.cell?, HQ.out.1]
    obtain ⟨t0, t1, t2, t3, t4, t5, t6, t7⟩ := box8 hE.out
    have HOW := hidR (fun W (h : Below wt.heap.size wt W) => owns_of_block HQ.out.2.1 (fun k hk => h.block k (HQ.out.2.1.lt k hk).2))
    have HWA := hidR (fun o => (Below.refl wt.heap.size wt).drew.alloc (Nat.le_refl _) o : ∀ o, Below wt.heap.size wt (wt.drew.alloc o))
    go_wp2_with fail
    go_region_law (refine step_append_any (by rfl) (.tmp 79) (.tmp 81) 38 (by rfl) base 138 _ 8 80 Tryz.underlying38 infoExF (by rfl) (by omega) _ xs.length _ (by rfl) (HOW.out _ ?_) (some ⟨_, 0, none⟩) 1 1 (by rfl) (exCells E) (by rfl) (fun e => by cases e) (news_new _ _ _ _ (by simp)) (exCells_one E) (by unfold maxLen; omega) (by omega) (by first | (simp; omega) | omega) ?_; exact HWA.out _; intro a3 c3 w3 ho3 hg3 hl3; obtain ⟨k3, z3⟩ := q_cells HQ.out (HWA.out _) hg3.out hbb)
    all_goals
      go_wp2_with fail
      go_ret
      obtain ⟨r1, r2, r3⟩ := q_put HQ.out hEs hQs.out hN.out (HWA.out _) ho3.out hg3.out hl3.out hgb hbb (by omega)
      exact ⟨a3, c3, xs ++ [E], r1, by first | (simp; done) | (simp; omega), by first | (simp; done) | (simp; omega), ret_int (by simp), r2, by simpa using r3, ⟨[E], rfl, Tree.leaf hEl⟩, fun _ => by simp⟩
  have hd0' : (0 : Int) < (d : Int) := by omega
  by_cases hl52 : xs.length < 52
  · have hl52' : (xs.length : Int) < 52 := by omega
    obtain ⟨d', rfl⟩ : ∃ d', d = d' + 1 := ⟨d - 1, by omega⟩
    have hfD : fD (d' + 1) = 2 * fD d' + 1 := rfl
    have hdd : ((d' + 1 : Nat) : Int) - 1 = (d' : Int) := by omega
    have hsA : ∀ o, base ≤ (w1.alloc o).heap.size := fun o => by simp; omega
    have HKA := hidR (fun o => HK1.out.keep (w' := w1.alloc o) (fun k _ hl _ _ => (HA.out o).block k hl))
    go_wp2_with fail
    try rw [hdd]
    refine (HIH.out d' rfl a c xs _ (HR1.out _) (HQ1.out.bel (HA.out _)) (HKA.out _) (hsA _) (by omega)).mono ?_
    rintro e w2 ⟨a2, c2, xs2, hQ2, hl1, hl2, rfl, hq2, hn2, ht2, _⟩
    have HQ2 := hidR hQ2
    have hsz2 : base ≤ w2.heap.size := by have := hq2.rest.size; have := hsA (.cells #[] 0); simp at *; omega
    have hebn : (Value.slice a xs.length c).ownBlock ≠ some w1.heap.size := fun e => by have := HOL.out _ e; omega
    have HE2 := hidR ((hq2.block w1.heap.size (by simp) (by omega) (by omega) hebn).trans (heap_alloc_new _ _))
    have HK2 := hidR ((HKA.out _).qs hq2 (fun k hk => (HQ1.out.2.1.lt k hk).1))
    have hs2 : w1.heap.size < w2.heap.size := lt_of_block' HE2.out
    have hb2 : b < w2.heap.size := by omega
    have hQs2 := hidR ((Qs.of (b := b) (o := (Value.slice a xs.length c).ownBlock) (hR1.out.bel (HA.out _))).trans hq2 (NewOr.refl _ _))
    have HN2 := hidR (hn2.mono (N := w.heap.size) (by simp; omega))
    have HN2' := hidR (hn2.mono (N := w1.heap.size + 1) (by simp))
    have HR2 := hidR hq2.rdr
    clear hq2 hn2 hQ2 HQ1 HK1 HKA HR1 hR1 c3 HA
    go_wp2_with fail
    try rw [hdd]
    refine (HIH.out d' rfl a2 c2 xs2 w2 HR2.out HQ2.out HK2.out hsz2 (by omega)).mono ?_
    rintro e w4 ⟨a4, c4, xs4, hQ4, hl3, hl4, rfl, hq4, hn4, ht4, _⟩
    have HQ4 := hidR hQ4
    have heb4 : (Value.slice a2 xs2.length c2).ownBlock ≠ some w1.heap.size := fun e => by
      rcases HN2'.out with h | h
      · exact hebn (by rw [← h, e])
      · have := h _ e; omega
    have HE4 := hidR ((hq4.block w1.heap.size hs2 (by omega) (by omega) heb4).trans HE2.out)
    have hs4 : w1.heap.size < w4.heap.size := lt_of_block' HE4.out
    have hQs4 := hidR (hQs2.out.trans hq4 HN2.out)
    have HN4 := hidR (HN2.out.trans hn4 (by omega))
    have HN4' := hidR (HN2'.out.trans hn4 (by omega))
    have HAR := hidR (fun o => (Below.refl _ _).alloc (Nat.le_refl _) o : ∀ o, Below w4.heap.size w4 (w4.alloc o))
    have hb4 : b < w4.heap.size := by omega
    have heb5 : (Value.slice a4 xs4.length c4).ownBlock ≠ some w1.heap.size := fun e => by
      rcases HN4'.out with h | h
      · exact hebn (by rw [← h, e])
      · have := h _ e; omega
    clear hq4 hn4 hQ4 HQ2 HK2 HR2 hQs2 HE2 HIH
    have hu5 : u / 5 % 5 = 0 ∨ u / 5 % 5 = 1 ∨ u / 5 % 5 = 2 ∨ u / 5 % 5 = 3 ∨ u / 5 % 5 = 4 := by omega
    go_wp2_with fail
    refine (ariths_any _).mono ?_
    rintro e w5 ⟨rfl, rfl⟩
    rcases hu5 with hu5 | hu5 | hu5 | hu5 | hu5
    all_goals
      go_wp2_with (first | (refine wpList_store_blk (by rfl) 138 (.tmp 10) (.tmp 56) (by rfl) w1.heap.size (exCells ⟨2, _, ⟨#[]⟩, (0, 0, ⟨#[]⟩), (xs2.length : Int) - 1, (xs4.length : Int) - 1⟩) (by rfl) (by rfl) _ 138 (((HAR.out _).block _ hs4).trans HE4.out) (by rfl) infoExS (exCells_one _) ?_; intro wt hE' ht; obtain ⟨E, hEs, hEo, hE⟩ := absE hE' (by first | rfl | decide) (by first | decide | (dsimp only; decide) | (simp; done)) (by first | decide | (dsimp only; decide) | (simp; done)); clear hE') | fail)
      have HQ := hidR ((HQ4.out.bel (HAR.out _)).turned ht.out (by omega) heb5)
      have hQs := hidR ((hQs4.out.bel (HAR.out _)).turned ht.out (by omega) hlt)
      have hN := hidR HN4.out
      have hsT : base ≤ wt.heap.size := by have := hQs.out.rest.size; omega
      clear HQ4 hQs4 HN4 HN4' HN2 HN2' HE4 HAR ht HOL hebn heb4 heb5
      have hbT : b < wt.heap.size := lt_of_block' HQ.out.1
      have cq3 : wt.cell? ⟨b, 3, none⟩ = some (.slice a4 xs4.length c4) := by simp [World.cell?, HQ.out.1]
      obtain ⟨t0, t1, t2, t3, t4, t5, t6, t7⟩ := box8 hE.out
      have HOW := hidR (fun W (h : Below wt.heap.size wt W) => owns_of_block HQ.out.2.1 (fun k hk => h.block k (HQ.out.2.1.lt k hk).2))
      have HWA := hidR (fun o => (Below.refl wt.heap.size wt).drew.alloc (Nat.le_refl _) o : ∀ o, Below wt.heap.size wt (wt.drew.alloc o))
      go_wp2_with fail
      go_region_law (refine step_append_any (by rfl) (.tmp 79) (.tmp 81) 38 (by rfl) base 138 _ 8 80 Tryz.underlying38 infoExF (by rfl) (by omega) _ xs4.length _ (by rfl) (HOW.out _ ?_) (some ⟨_, 0, none⟩) 1 1 (by rfl) (exCells E) (by rfl) (fun e => by cases e) (news_new _ _ _ _ (by simp)) (exCells_one E) (by unfold maxLen; omega) (by omega) (by first | (simp; omega) | omega) ?_; exact HWA.out _; intro a3 c3 w3 ho3 hg3 hl3; obtain ⟨k3, z3⟩ := q_cells HQ.out (HWA.out _) hg3.out hbb)
      all_goals
        go_wp2_with fail
        go_ret
        obtain ⟨r1, r2, r3⟩ := q_put HQ.out hEs hQs.out hN.out (HWA.out _) ho3.out hg3.out hl3.out hgb hbb (by omega)
        exact ⟨a3, c3, xs4 ++ [E], r1, by first | (simp; done) | (simp; omega), by first | (simp; done) | (simp; omega), ret_int (by simp), r2, by simpa using r3, tree_op ht2 ht4 hEo, fun _ => by omega⟩
  · have hl52' : ¬ (xs.length : Int) < 52 := by omega
    go_wp2_with fail
    refine (l1Val_any g _ (HR1.out _)).mono ?_
    rintro e w2 ⟨v, hv, rfl, hr2⟩
    have hR2 := hidR ((hR1.out.bel (HA.out _)).trans hr2)
    have HEB := hidR (block_rs hr2 (heap_alloc_new _ _) (by omega))
    have HQ2 := hidR ((HQ1.out.bel (HA.out _)).rs hr2 (by omega) (by omega))
    clear hr2
    unfold vV
    go_wp2_with (first | (refine wpList_store_part (by rfl) 47 (.tmp 18) (.tmp 17) (by rfl) w1.heap.size 3 (V.cells v) (by rfl) (by rfl) _ 138 HEB.out (by simp [V.cells]) infoVS (V.cells_one _) (exCells ⟨0, 0, ⟨#[]⟩, v, 0, 0⟩).toArray (by rfl) ?_; intro wt hE ht) | fail)
    obtain ⟨E, hEE⟩ : ∃ E : Ex, E = ⟨0, 0, ⟨#[]⟩, v, 0, 0⟩ := ⟨_, rfl⟩
    have hEs : ExSm E := by rw [hEE]; exact ⟨Nat.zero_le 20, hv, Int.le_refl 0, (by decide : (0 : Int) < 256)⟩
    have hEl : Leaf K E := by rw [hEE]; exact .inl ⟨v, hv.2.2.2.2, rfl⟩
    rw [← hEE] at hE
    have HQ := hidR (HQ2.out.turned ht.out (by omega) (fun e => by have := HOL.out _ e; omega))
    have hQs := hidR (Qs.of (b := b) (o := (Value.slice a xs.length c).ownBlock) (hR2.out.turned ht.out (by omega) hlt))
    have hN := hidR (NewOr.refl w.heap.size (Value.slice a xs.length c).ownBlock)
    have hsT : base ≤ wt.heap.size := by have := hQs.out.rest.size; omega
    clear HQ2 HQ1 hR1 HR1 hR2 HEB HOL HA ht hEE hv c3
    have hbT : b < wt.heap.size := lt_of_block' HQ.out.1
    have cq3 : wt.cell? ⟨b, 3, none⟩ = some (.slice a xs.length c) := by simp [World.cell?, HQ.out.1]
    obtain ⟨t0, t1, t2, t3, t4, t5, t6, t7⟩ := box8 hE.out
    have HOW := hidR (fun W (h : Below wt.heap.size wt W) => owns_of_block HQ.out.2.1 (fun k hk => h.block k (HQ.out.2.1.lt k hk).2))
    have HWA := hidR (fun o => (Below.refl wt.heap.size wt).drew.alloc (Nat.le_refl _) o : ∀ o, Below wt.heap.size wt (wt.drew.alloc o))
    go_wp2_with fail
    go_region_law (refine step_append_any (by rfl) (.tmp 79) (.tmp 81) 38 (by rfl) base 138 _ 8 80 Tryz.underlying38 infoExF (by rfl) (by omega) _ xs.length _ (by rfl) (HOW.out _ ?_) (some ⟨_, 0, none⟩) 1 1 (by rfl) (exCells E) (by rfl) (fun e => by cases e) (news_new _ _ _ _ (by simp)) (exCells_one E) (by unfold maxLen; omega) (by omega) (by first | (simp; omega) | omega) ?_; exact HWA.out _; intro a3 c3 w3 ho3 hg3 hl3; obtain ⟨k3, z3⟩ := q_cells HQ.out (HWA.out _) hg3.out hbb)
    all_goals
      go_wp2_with fail
      go_ret
      obtain ⟨r1, r2, r3⟩ := q_put HQ.out hEs hQs.out hN.out (HWA.out _) ho3.out hg3.out hl3.out hgb hbb (by omega)
      exact ⟨a3, c3, xs ++ [E], r1, by first | (simp; done) | (simp; omega), by first | (simp; done) | (simp; omega), ret_int (by simp), r2, by simpa using r3, ⟨[E], rfl, Tree.leaf hEl⟩, fun _ => by simp⟩
end Go.Proofs.YtgkoiojelckblaaGreatDoor

namespace Go.Proofs.YtgkoiojelckblaaGreatDoor
open Go.RowKit
attribute [local go_sem ↓] Go.wp_at_zero Go.wp_at_succ

theorem l2DrawExpr_any (K : List ByteArray) (g b base : Nat) (x0 x1 x2 x4 : Value) (ka : Option Addr) (kn kc : Nat) (hgb : g < b) (hbb : b < base) : ∀ (d : Nat), d ≤ 8 → ∀ (a : Option Addr) (c : Nat) (xs : List Ex) (w : World), Rdr w g → QB w b base x0 x1 x2 x4 a c xs → StrsQ K w g b base ka kn → base ≤ w.heap.size → xs.length + fD d ≤ 100000 →
    Calls Tryz.prog 102 #[.pointer (some ⟨g, 0, none⟩), .pointer (some ⟨b, 0, none⟩), .slice ka kn kc, .int .i64 (d : Int)] w (QPost K g b base x0 x1 x2 x4 a c xs d w) := by
  intro d
  induction d with
  | zero => exact fun hd a c xs w h hq hk hbase hlen => expr_step K g b base x0 x1 x2 x4 ka kn kc hgb hbb 0 a c xs w hd h hq hk hbase hlen (fun d' e => by omega)
  | succ d ih => exact fun hd a c xs w h hq hk hbase hlen => expr_step K g b base x0 x1 x2 x4 ka kn kc hgb hbb (d + 1) a c xs w hd h hq hk hbase hlen (fun d' e => by obtain rfl : d = d' := (by omega); exact ih (by omega))
theorem run_convR (c : Int) (w : World) (b : Nat) (h : w.cell? ⟨b, 0, none⟩ = some (.int .u8 c)) : (convert 22 9 (.slice (some ⟨b, 0, none⟩) 1 1)).run Tryz.prog w = .ok (.string (strOfNums [c])) w :=
  run_convert_bytes_arg (P := Tryz.prog) _ 22 5 Tryz.underlying22 Tryz.underlying5 b 0 1 1 [c] rfl (fun i hi => by
    obtain rfl : i = 0 := by omega
    simpa using h) 9 Tryz.underlying9
def digB (k : Nat) : ByteArray := ⟨#[UInt8.ofNat (48 + k)]⟩
theorem digB_eq (k : Nat) (hk : k < 10) : strOfNums [48 + ((k : Int) % 10)] ++ (⟨#[]⟩ : ByteArray) = digB k := by
  have : ∀ k : Fin 10, strOfNums [48 + (((k.val : Nat) : Int) % 10)] ++ (⟨#[]⟩ : ByteArray) = digB k.val := by decide
  exact this ⟨k, hk⟩
set_option maxHeartbeats 1600000 in
theorem l1Dec_any (k : Nat) (w : World) (hk : k < 10) : Calls Tryz.prog 10 #[.int .i64 (k : Int)] w fun e w' => e = .returned (.string (digB k)) ∧ Below w.heap.size w w' := by
  have hk0 : ¬ (k : Int) < 0 := by omega
  have HC := hidR run_convR
  go_enter Tryz.func10, Tryz.ntmps10
  go_wp2
  go_loopw [0, 4, 5] (fun nv sv fv wr => (nv = .int .i64 (k : Int) ∧ sv = .string ⟨#[]⟩ ∧ fv = .bool true ∧ wr = w) ∨ (nv = .int .i64 0 ∧ sv = .string (digB k) ∧ fv = .bool false ∧ Below w.heap.size w wr)) (fun _ _ fv _ => match fv with | .bool true => 1 | _ => 0)
  case atStart => exact .inl ⟨rfl, rfl, rfl, rfl⟩
  case round =>
    rcases hrel with ⟨rfl, rfl, rfl, rfl⟩ | ⟨rfl, rfl, rfl, hb⟩
    · have hcv := HC.out
      go_wp2
      refine ⟨.inr ⟨by rw [show (k : Int) / 10 = 0 by omega], ?_, rfl, (Below.refl _ _).alloc (Nat.le_refl _) _⟩, by simp⟩
      exact congrArg Value.string (digB_eq k hk)
    · go_wp2
      go_ret
      exact ⟨rfl, hb⟩
theorem infoIntF : (Tryz.prog.info? 3).map (fun i => (i.zero, i.size, i.bytes)) = some (some (.int .i64 0), 1, 8) := by kernel_rfl
def argN : List Int := [1, 2, 1, 2, 3, 0]
theorem argN_at (k : Nat) (hk : k < 6) : ∃ n : Nat, n ≤ 3 ∧ argN[k]? = some (n : Int) := by
  have : k = 0 ∨ k = 1 ∨ k = 2 ∨ k = 3 ∨ k = 4 ∨ k = 5 := by omega
  rcases this with rfl | rfl | rfl | rfl | rfl | rfl
  · exact ⟨1, by omega, rfl⟩
  · exact ⟨2, by omega, rfl⟩
  · exact ⟨1, by omega, rfl⟩
  · exact ⟨2, by omega, rfl⟩
  · exact ⟨3, by omega, rfl⟩
  · exact ⟨0, by omega, rfl⟩

set_option maxRecDepth 100000 in
set_option maxHeartbeats 3200000 in
theorem l2DrawArgs_any (K : List ByteArray) (m : Nat) (g b base : Nat) (x0 x1 x2 x4 : Value) (ka : Option Addr) (kn kc : Nat) (hgb : g < b) (hbb : b < base) (a : Option Addr) (c : Nat) (xs : List Ex) (w : World) (h : Rdr w g) (hq : QB w b base x0 x1 x2 x4 a c xs) (hk : StrsQ K w g b base ka kn) (hbase : base ≤ w.heap.size) (hm1 : xs.length ≤ 7 * m) (hm2 : xs.length ≤ 50 + m) (hm : m ≤ 100) :
    Calls Tryz.prog 57 #[.pointer (some ⟨g, 0, none⟩), .pointer (some ⟨b, 0, none⟩), .slice ka kn kc] w fun e w' => ∃ ao co zs a' c' xs' ys, e = .returned (.slice ao zs.length co) ∧ w'.ownsRow w.heap.size 3 1 (.slice ao zs.length co) zs.length ((zs : List Int).map (Value.int .i64)) ∧ QB w' b base x0 x1 x2 x4 a' c' xs' ∧ (xs' = xs ++ ys ∧ Trees K xs.length ys zs ∧ zs.length ≤ 3 ∧ xs'.length ≤ 7 * (m + zs.length) ∧ xs'.length ≤ 50 + (m + zs.length)) ∧ Qs g b (Value.slice a xs.length c).ownBlock w w' ∧ NewOr w.heap.size (Value.slice a xs.length c).ownBlock (Value.slice a' xs'.length c').ownBlock := by
  have H := hidR h
  have HQ := hidR hq
  have HK := hidR hk
  have hlt := h.lt
  have hbl : b < w.heap.size := lt_of_block' hq.1
  clear h hq hk
  have HA := hidR (fun o => (Below.refl _ _).alloc (Nat.le_refl _) o : ∀ o, Below w.heap.size w (w.alloc o))
  have HR := hidR (fun o => H.out.bel (HA.out o))
  go_enter Tryz.func57, Tryz.ntmps57
  go_wp2_with fail
  refine (next_any g _ (HR.out _)).mono ?_
  rintro e w1 ⟨u, hu, rfl, hr⟩
  have HT := hidR (block_rs hr (heap_alloc_new _ _) (by omega))
  have hs1 : w.heap.size < w1.heap.size := lt_of_block' HT.out
  obtain ⟨k, hkd⟩ : ∃ k, k = u % 6 := ⟨_, rfl⟩
  have hk6 : k < 6 := by omega
  have hki : (u : Int) % 6 = (k : Int) := by omega
  have hkI : (k : Int) < 6 := by omega
  have hk0 : (0 : Int) ≤ (k : Int) := by omega
  obtain ⟨n0, hn3, hat⟩ := argN_at k hk6
  have hcell : w1.cell? ⟨w.heap.size, k, none⟩ = some (.int .i64 (n0 : Int)) := by
    have hb := HT.out
    have : k = 0 ∨ k = 1 ∨ k = 2 ∨ k = 3 ∨ k = 4 ∨ k = 5 := by omega
    rcases this with rfl | rfl | rfl | rfl | rfl | rfl <;> simp [argN] at hat <;> simp [World.cell?, hb, ← hat]
  have HQ1 := hidR ((HQ.out.bel (HA.out _)).rs hr (by omega) (by omega))
  have hQs1 := hidR (Qs.of (b := b) (o := (Value.slice a xs.length c).ownBlock) ((Rs.of H.out (HA.out _)).trans hr))
  clear hr hkd hat HT HA HR H
  go_wp2_with fail
  clear hcell hki
  go_loopw [7, 8] (fun ov nv wr => ∃ (j : Nat) (ao : Option Addr) (co : Nat) (zs : List Int) (a' : Option Addr) (c' : Nat) (xs' ys : List Ex), nv = .int .i64 (j : Int) ∧ ov = .slice ao zs.length co ∧ zs.length + j = n0 ∧ wr.ownsRow w.heap.size 3 1 (.slice ao zs.length co) zs.length (zs.map (Value.int .i64)) ∧ QB wr b base x0 x1 x2 x4 a' c' xs' ∧ (xs' = xs ++ ys ∧ Trees K xs.length ys zs ∧ xs'.length ≤ 7 * (m + zs.length) ∧ xs'.length ≤ 50 + (m + zs.length)) ∧ Qs g b (Value.slice a xs.length c).ownBlock w wr ∧ NewOr w.heap.size (Value.slice a xs.length c).ownBlock (Value.slice a' xs'.length c').ownBlock) (fun _ nv _ => (intOf nv).toNat)
  case atStart => exact ⟨n0, none, 0, [], a, c, xs, [], rfl, rfl, by simp, World.ownsRow_nil _ _ _ _, HQ1.out, ⟨by simp, rfl, by simpa using hm1, by simpa using hm2⟩, hQs1.out, NewOr.refl _ _⟩
  case round =>
    obtain ⟨j, ao, co, zs, a', c', xs', ys, rfl, rfl, hj, hown, hQ, ⟨hxe, hxt, hx7, hx5⟩, hQs, hN⟩ := hrel
    have HXE := hidR (And.intro hxe hxt)
    clear hxe hxt
    by_cases hj0 : j = 0
    · subst hj0
      go_wp2_with fail
      go_ret
      exact ⟨ao, co, zs, a', c', xs', ys, rfl, hown, hQ, ⟨HXE.out.1, HXE.out.2, by omega, hx7, hx5⟩, hQs, hN⟩
    · have hj1 : (0 : Int) < (j : Int) := by omega
      have hsz := hQs.rest.size
      have hf2 : fD 2 = 7 := rfl
      have HC := hidR (l2DrawExpr_any K g b base x0 x1 x2 x4 ka kn kc hgb hbb 2 (by omega) a' c' xs' wr hQs.rdr hQ (HK.out.qs hQs (fun k hk => (HQ.out.2.1.lt k hk).1)) (by omega) (by rw [hf2]; omega))
      have HO := hidR hown
      have HQr := hidR hQ
      have HQs2 := hidR hQs
      have HN2 := hidR hN
      clear hown hQ hQs hN HQ1 hQs1
      go_wp2_with fail
      refine HC.out.mono ?_
      rintro e w2 ⟨a2, c2, xs2, hQ2, hl1, hl2, rfl, hq2, hn2, ht2, hb2⟩
      rw [hf2] at hl2
      have HT2 := hidR ht2
      clear ht2
      have HQ3 := hidR hQ2
      have HO2 := hidR (own_qs (t := 138) HO.out hq2 (by omega) (by omega) (fun k hk => own_type HQr.out.2.1 hk) (by decide))
      have HQs3 := hidR (HQs2.out.trans hq2 HN2.out)
      have HN3 := hidR (HN2.out.trans hn2 (by omega))
      have hs2 := hq2.rest.size
      have HA2 := hidR (fun o => (Below.refl _ _).alloc (Nat.le_refl _) o : ∀ o, Below w2.heap.size w2 (w2.alloc o))
      have HO3 := hidR (fun o => owns_of_block HO2.out (fun k hk => (HA2.out o).block k (HO2.out.lt k hk).2))
      clear hQ2 hq2 hn2 HC HO HQr HQs2 HN2
      go_wp2_with (first | (at_builtin; refine wpList_append_any (by rfl) (.tmp 19) (.tmp 24) 51 (by rfl) w.heap.size 3 _ 1 8 Tryz.underlying51 infoIntF (by rfl) (by omega) _ zs.length _ (by rfl) (HO3.out _) (some ⟨_, 0, none⟩) 1 1 (by rfl) [.int .i64 ((xs2.length : Int) - 1)] (by rfl) (fun e => by cases e) (news_new _ _ _ _ (by simp)) (by intro u hu; simp at hu; subst hu; rfl) (by unfold maxLen; omega) (by omega) (by simp; omega) ?_; intro a3 c3 w3 ho3 hg3 hl3) | fail)
      go_roundw
      case rel =>
        obtain ⟨TY, hte, htt⟩ := HT2.out
        obtain ⟨hxe, hxt⟩ := HXE.out
        refine ⟨j - 1, a3, c3, zs ++ [(xs2.length : Int) - 1], a2, c2, xs2, ys ++ TY, ?_, by simp, by simp; omega, by simpa using ho3.out, (HQ3.out.bel (HA2.out _)).grown (t := 3) hg3.out (fun k hk => own_type (HO3.out _) hk) (by decide) (by decide), ⟨by rw [hte, hxe, List.append_assoc], ?_, by simp; omega, by simp; omega⟩, (HQs3.out.bel (HA2.out _)).grown hg3.out (fun k hk => (HO2.out.lt k hk).1) hlt, HN3.out⟩
        · rw [show ((j - 1 : Nat) : Int) = (j : Int) - 1 by omega]
        · have := Trees.snoc hxt (B := TY) (by rw [hxe] at htt; simpa using htt)
          have e : xs2.length = xs.length + ys.length + TY.length := by rw [hte, hxe]; simp [Nat.add_assoc]
          rw [e]
          exact this
      case measure => (simp [intOf]; omega)
end Go.Proofs.YtgkoiojelckblaaGreatDoor

namespace Go.Proofs.YtgkoiojelckblaaGreatDoor
open Go.RowKit

theorem own_rs {w w' : World} {base g : Nat} {e : TypeId} {m : Nat} {v : Value} {n : Nat} {xs : List Value} (h : w.ownsRow base e m v n xs) (hr : Rs g w w') (hg : g < base) : w'.ownsRow base e m v n xs :=
  owns_of_block h fun k hk => hr.1.block k (h.lt k hk).2 (fun e => by injection e with e; have := (h.lt k hk).1; omega)
theorem Rs.grown {g : Nat} {row : Option Nat} {u v w : World} (h : Rs g u v) (hg : v.grownBy w row) (hr : ∀ k, row = some k → u.heap.size ≤ k) (hgu : g < u.heap.size) : Rs g u w :=
  ⟨⟨h.1.rest.grown hg (Nat.zero_le _) (fun _ _ => Nat.zero_le _), fun k hk hne => (hg.block k (Nat.lt_of_lt_of_le hk h.1.rest.size) (fun e => by have := hr k e.symm; omega)).trans (h.1.block k hk hne)⟩, h.2.old ((Below.refl _ _).grown hg (by have := h.1.rest.size; omega) (fun k hk => by have := hr k hk; omega))⟩

/-- A pattern that was drawn, with the slice of its terms. -/
abbrev PtV := Pt × Value
def pcells (x : PtV) : List Value := [.bool x.1.neg, .string x.1.cls, x.2]
theorem pcells_one (x : PtV) (h : x.2.oneCell' = true) : ∀ u ∈ pcells x, u.oneCell' = true := by
  intro u hu
  simp [pcells] at hu
  rcases hu with rfl | rfl | rfl
  · rfl
  · rfl
  · exact h
/-- What is asked of it. -/
def PtX (w : World) (base : Nat) (x : PtV) : Prop := (∃ a c, x.2 = .slice a x.1.terms.length c) ∧ w.ownsRow base 49 6 x.2 x.1.terms.length (x.1.terms.flatMap tmCells) ∧ GCl x.1.cls ∧ x.1.terms.length ≤ 3 ∧ ∀ t ∈ x.1.terms, TmSm t
/-- Patterns that were drawn: an owned row. -/
def PO (w : World) (base : Nat) (a : Option Addr) (c : Nat) (L : List PtV) : Prop := w.ownsRow base 45 3 (.slice a L.length c) L.length (L.flatMap pcells) ∧ ∀ x ∈ L, PtX w base x
theorem PO.nil (w : World) (base : Nat) : PO w base none 0 [] := ⟨World.ownsRow_nil _ _ _ _, fun x hx => by simp at hx⟩
theorem PtX.rs {w w' : World} {base g : Nat} {x : PtV} (h : PtX w base x) (hr : Rs g w w') (hg : g < base) : PtX w' base x := ⟨h.1, own_rs h.2.1 hr hg, h.2.2⟩
theorem PO.rs {w w' : World} {base g : Nat} {a : Option Addr} {c : Nat} {L : List PtV} (h : PO w base a c L) (hr : Rs g w w') (hg : g < base) : PO w' base a c L := ⟨own_rs h.1 hr hg, fun x hx => (h.2 x hx).rs hr hg⟩
theorem PtX.bel {w w' : World} {base : Nat} {x : PtV} (h : PtX w base x) (hb : Below w.heap.size w w') : PtX w' base x := ⟨h.1, own_bel h.2.1 hb, h.2.2⟩
theorem PO.bel {w w' : World} {base : Nat} {a : Option Addr} {c : Nat} {L : List PtV} (h : PO w base a c L) (hb : Below w.heap.size w w') : PO w' base a c L := ⟨own_bel h.1 hb, fun x hx => (h.2 x hx).bel hb⟩
theorem PtX.grown {w w' : World} {base : Nat} {t : TypeId} {x : PtV} {row : Option Nat} (h : PtX w base x) (hg : w.grownBy w' row) (ht : ∀ k, row = some k → ∃ c, w.heap[k]? = some (.cells c t (0, 0))) (hne : t ≠ 49) : PtX w' base x := ⟨h.1, own_grown h.2.1 hg ht hne, h.2.2⟩
theorem PtX.set {w : World} {base b o : Nat} {t : TypeId} {x : PtV} {v : Value} {c : Array Value} {fr : Nat × Nat} (h : PtX w base x) (hb : w.heap[b]? = some (.cells c t fr)) (hne : t ≠ 49) : PtX (w.setCell ⟨b, o, none⟩ v) base x := ⟨h.1, own_set h.2.1 hb hne, h.2.2⟩
theorem PO.set {w : World} {base b o : Nat} {t : TypeId} {a : Option Addr} {c' : Nat} {L : List PtV} {v : Value} {c : Array Value} {fr : Nat × Nat} (h : PO w base a c' L) (hb : w.heap[b]? = some (.cells c t fr)) (hne : t ≠ 49) (hne2 : t ≠ 45) : PO (w.setCell ⟨b, o, none⟩ v) base a c' L := ⟨own_set h.1 hb hne2, fun x hx => (h.2 x hx).set hb hne⟩
theorem PO.snoc {w w' : World} {base : Nat} {a a' : Option Addr} {c c' : Nat} {L : List PtV} {x : PtV} (h : PO w base a c L) (hx : PtX w base x) (ho : w'.ownsRow base 45 3 (.slice a' (L.length + 1) c') (L.length + 1) (L.flatMap pcells ++ pcells x)) (hg : w.grownBy w' (Value.slice a L.length c).ownBlock) : PO w' base a' c' (L ++ [x]) := by
  refine ⟨by simpa using ho, fun y hy => ?_⟩
  have hy' : PtX w base y := by
    rcases List.mem_append.1 hy with hy | hy
    · exact h.2 y hy
    · simp at hy
      exact hy ▸ hx
  exact hy'.grown (t := 45) hg (fun k hk => own_type h.1 hk) (by decide)
/-- Words that are owned. -/
def SO (K : List ByteArray) (w : World) (base : Nat) (a : Option Addr) (n c : Nat) : Prop := n ≤ 1000 ∧ ∃ ks : List ByteArray, (ks = K ∧ ks.length = n) ∧ (∀ s ∈ ks, GNm s) ∧ w.ownsRow base 9 1 (.slice a n c) n (ks.map Value.string)
theorem SO.rs {K : List ByteArray} {w w' : World} {base g : Nat} {a : Option Addr} {n c : Nat} (h : SO K w base a n c) (hr : Rs g w w') (hg : g < base) : SO K w' base a n c := by
  obtain ⟨h0, ks, h1, h2, h3⟩ := h
  exact ⟨h0, ks, h1, h2, own_rs h3 hr hg⟩
theorem SO.on {K : List ByteArray} {w : World} {base g : Nat} {a : Option Addr} {n c : Nat} (h : SO K w base a n c) (hg : g < base) : StrsOn K w g a n := by
  obtain ⟨h0, ks, h1, h2, h3⟩ := h
  refine ⟨by omega, fun j hj => ?_⟩
  have hjk : j < ks.length := by have := h1.2; omega
  obtain ⟨k, rfl, hb, hc, _⟩ := owns_cell h3 (j := j) (x := .string ks[j]) (by simp [hjk])
  exact ⟨k, 0, ks[j], rfl, by omega, ⟨(h2 _ (List.getElem_mem hjk)).1, (h2 _ (List.getElem_mem hjk)).2, by rw [← h1.1]; exact List.getElem_mem hjk⟩, by rw [Nat.zero_add]; exact hc⟩
theorem SO.q {K : List ByteArray} {w : World} {base g b B : Nat} {t : TypeId} {a : Option Addr} {n c : Nat} {cb : Array Value} {fr : Nat × Nat} (h : SO K w base a n c) (hg : g < base) (hb : w.heap[b]? = some (.cells cb t fr)) (hne : t ≠ 9) (hB : w.heap.size ≤ B) : StrsQ K w g b B a n := by
  obtain ⟨h0, ks, h1, h2, h3⟩ := h
  refine ⟨by omega, fun j hj => ?_⟩
  have hjk : j < ks.length := by have := h1.2; omega
  obtain ⟨k, rfl, hb', hc, _⟩ := owns_cell h3 (j := j) (x := .string ks[j]) (by simp [hjk])
  obtain ⟨c', hc'⟩ := own_type h3 (k := k) rfl
  refine ⟨k, 0, ks[j], rfl, by omega, fun e => ?_, ?_, ⟨(h2 _ (List.getElem_mem hjk)).1, (h2 _ (List.getElem_mem hjk)).2, by rw [← h1.1]; exact List.getElem_mem hjk⟩, by rw [Nat.zero_add]; exact hc⟩
  · subst e
    exact own_far hb hc' hne
  · have := lt_of_block' hc'
    omega
/-- Blocks of some types stay. -/
def Same (T : List TypeId) (base : Nat) (w w' : World) : Prop := ∀ k t c, base ≤ k → w.heap[k]? = some (.cells c t (0, 0)) → t ∈ T → w'.heap[k]? = w.heap[k]?
theorem own_same {T : List TypeId} {base : Nat} {w w' : World} {e : TypeId} {m : Nat} {v : Value} {n : Nat} {xs : List Value} (h : w.ownsRow base e m v n xs) (hs : Same T base w w') (he : e ∈ T) : w'.ownsRow base e m v n xs := by
  refine owns_of_block h fun k hk => ?_
  obtain ⟨c, hc⟩ := own_type h hk
  exact hs k e c (h.lt k hk).1 hc he
theorem Same.bel {T : List TypeId} {base : Nat} {w w' : World} (hb : Below w.heap.size w w') : Same T base w w' := fun k _ _ _ hk _ => hb.block k (lt_of_block' hk)
theorem Same.rs {T : List TypeId} {base g : Nat} {w w' : World} (hr : Rs g w w') (hg : g < base) : Same T base w w' := fun k _ _ hb hk _ => hr.1.block k (lt_of_block' hk) (fun e => by injection e with e; omega)
theorem Same.grown {T : List TypeId} {base : Nat} {t : TypeId} {w w' : World} {row : Option Nat} (hg : w.grownBy w' row) (ht : ∀ k, row = some k → ∃ c, w.heap[k]? = some (.cells c t (0, 0))) (hT : t ∉ T) : Same T base w w' := fun k t' c _ hk ht' => hg.block k (lt_of_block' hk) (fun e => by
  obtain ⟨c', hc'⟩ := ht k e.symm
  exact own_far hk hc' (fun e => hT (e ▸ ht')))
theorem Same.kept {T : List TypeId} {base d : Nat} {t : TypeId} {w w' : World} {c : Array Value} {fr : Nat × Nat} (hk : ∀ k, k ≠ d → k < w.heap.size → w'.heap[k]? = w.heap[k]?) (hd : w.heap[d]? = some (.cells c t fr)) (hT : t ∉ T) : Same T base w w' := fun k t' c' _ h ht' => hk k (fun e => by
  subst e
  exact own_far h hd (fun e => hT (e ▸ ht'))) (lt_of_block' h)
theorem Same.trans {T : List TypeId} {base : Nat} {u v w : World} (h : Same T base u v) (h' : Same T base v w) : Same T base u w := fun k t c hb hk ht => (h' k t c hb ((h k t c hb hk ht).trans hk) ht).trans (h k t c hb hk ht)
theorem Same.less {T T' : List TypeId} {base : Nat} {u v : World} (h : Same T base u v) (hT : ∀ t ∈ T', t ∈ T) : Same T' base u v := fun k t c hb hk ht => h k t c hb hk (hT t ht)
/-- An action that was drawn, with the slice of its arguments. -/
abbrev AcV := Ac × Value
def acells (x : AcV) : List Value := [.int .i64 x.1.kind, .int .i64 x.1.k, .string x.1.cls, x.2]
def AcP (w : World) (base : Nat) (x : AcV) : Prop := (∃ a c, x.2 = .slice a x.1.args.length c) ∧ w.ownsRow base 3 1 x.2 x.1.args.length (icells x.1.args)
/-- Actions that were drawn: an owned row. -/
def AcO (w : World) (base : Nat) (a : Option Addr) (c : Nat) (Y : List AcV) : Prop := w.ownsRow base 53 4 (.slice a Y.length c) Y.length (Y.flatMap acells) ∧ ∀ x ∈ Y, AcP w base x
theorem AcO.nil (w : World) (base : Nat) : AcO w base none 0 [] := ⟨World.ownsRow_nil _ _ _ _, fun x hx => by simp at hx⟩
theorem AcO.same {T : List TypeId} {base : Nat} {w w' : World} {a : Option Addr} {c : Nat} {Y : List AcV} (h : AcO w base a c Y) (hs : Same T base w w') (h1 : 53 ∈ T) (h2 : 3 ∈ T) : AcO w' base a c Y := ⟨own_same h.1 hs h1, fun x hx => ⟨(h.2 x hx).1, own_same (h.2 x hx).2 hs h2⟩⟩
theorem AcO.bel {base : Nat} {w w' : World} {a : Option Addr} {c : Nat} {Y : List AcV} (h : AcO w base a c Y) (hb : Below w.heap.size w w') : AcO w' base a c Y := h.same (T := [53, 3]) (Same.bel hb) (by decide) (by decide)
theorem AcO.rs {base g : Nat} {w w' : World} {a : Option Addr} {c : Nat} {Y : List AcV} (h : AcO w base a c Y) (hr : Rs g w w') (hg : g < base) : AcO w' base a c Y := h.same (T := [53, 3]) (Same.rs hr hg) (by decide) (by decide)
theorem AcO.turned {base d : Nat} {w w' : World} {a : Option Addr} {c : Nat} {Y : List AcV} {cd : Array Value} {fr : Nat × Nat} (h : AcO w base a c Y) (ht : Turned w w' d) (hd : ∀ k, (Value.slice a Y.length c).ownBlock = some k → k ≠ d) (hb : w.heap[d]? = some (.cells cd 53 fr)) : AcO w' base a c Y :=
  ⟨owns_of_block h.1 (fun k hk => ht.block k (hd k hk)), fun x hx => ⟨(h.2 x hx).1, own_same (h.2 x hx).2 (T := [3]) (Same.kept (fun k hk _ => ht.block k hk) hb (by decide)) (by decide)⟩⟩
theorem AcO.qs {base g b : Nat} {o : Option Nat} {w w' : World} {a : Option Addr} {c : Nat} {Y : List AcV} (h : AcO w base a c Y) (hq : Qs g b o w w') (hg : g < base) (hb : b < base) (ht : ∀ k, o = some k → ∃ c, w.heap[k]? = some (.cells c 138 (0, 0))) : AcO w' base a c Y :=
  ⟨own_qs h.1 hq hg hb ht (by decide), fun x hx => ⟨(h.2 x hx).1, own_qs (h.2 x hx).2 hq hg hb ht (by decide)⟩⟩
/-- A rule that was drawn, with the slices of its rows. -/
structure RuX where
  nm : ByteArray
  sal : Int
  pv : Value
  ev : Value
  av : Value
  pats : List PtV
  es : List Ex
  acts : List AcV
def RuX.ru (x : RuX) : Ru := ⟨x.nm, x.sal, x.pats.map Prod.fst, x.es, x.acts.map Prod.fst⟩
def rcells (x : RuX) : List Value := [.string x.nm, .int .i64 x.sal, x.pv, x.ev, x.av]
def rTys : List TypeId := [45, 49, 138, 53, 3]
def RuP (w : World) (base : Nat) (x : RuX) : Prop := (∃ a c, x.pv = .slice a x.pats.length c ∧ PO w base a c x.pats) ∧ (∃ a c, x.ev = .slice a x.es.length c ∧ w.ownsRow base 138 8 (.slice a x.es.length c) x.es.length (x.es.flatMap exCells) ∧ ∀ e ∈ x.es, ExSm e) ∧ ∃ a c, x.av = .slice a x.acts.length c ∧ AcO w base a c x.acts
theorem PO.same {T : List TypeId} {base : Nat} {w w' : World} {a : Option Addr} {c : Nat} {L : List PtV} (h : PO w base a c L) (hs : Same T base w w') (h1 : 45 ∈ T) (h2 : 49 ∈ T) : PO w' base a c L := ⟨own_same h.1 hs h1, fun x hx => ⟨(h.2 x hx).1, own_same (h.2 x hx).2.1 hs h2, (h.2 x hx).2.2⟩⟩
theorem RuP.same {base : Nat} {w w' : World} {x : RuX} (h : RuP w base x) (hs : Same rTys base w w') : RuP w' base x := by
  obtain ⟨⟨a, c, e, h1⟩, ⟨a2, c2, e2, h2, h3⟩, a4, c4, e4, h4⟩ := h
  exact ⟨⟨a, c, e, h1.same hs (by decide) (by decide)⟩, ⟨a2, c2, e2, own_same h2 hs (by decide), h3⟩, a4, c4, e4, h4.same hs (by decide) (by decide)⟩
theorem RuP.lower {base base' : Nat} {w : World} {x : RuX} (h : RuP w base x) (hb : base' ≤ base) : RuP w base' x := by
  obtain ⟨⟨a, c, e, h1⟩, ⟨a2, c2, e2, h2, h3⟩, a4, c4, e4, h4⟩ := h
  exact ⟨⟨a, c, e, owns_base h1.1 hb, fun y hy => ⟨(h1.2 y hy).1, owns_base (h1.2 y hy).2.1 hb, (h1.2 y hy).2.2⟩⟩, ⟨a2, c2, e2, owns_base h2 hb, h3⟩, a4, c4, e4, owns_base h4.1 hb, fun y hy => ⟨(h4.2 y hy).1, owns_base (h4.2 y hy).2 hb⟩⟩
/-- Rules that were drawn: an owned row. -/
def RO (w : World) (base : Nat) (a : Option Addr) (c : Nat) (M : List RuX) : Prop := w.ownsRow base 41 5 (.slice a M.length c) M.length (M.flatMap rcells) ∧ ∀ x ∈ M, RuP w base x
theorem RO.nil (w : World) (base : Nat) : RO w base none 0 [] := ⟨World.ownsRow_nil _ _ _ _, fun x hx => by simp at hx⟩
theorem RO.same {base : Nat} {w w' : World} {a : Option Addr} {c : Nat} {M : List RuX} (h : RO w base a c M) (hs : Same (41 :: rTys) base w w') : RO w' base a c M := ⟨own_same h.1 hs (by decide), fun x hx => (h.2 x hx).same (hs.less (fun t ht => List.mem_cons_of_mem _ ht))⟩
theorem RO.rs {base g : Nat} {w w' : World} {a : Option Addr} {c : Nat} {M : List RuX} (h : RO w base a c M) (hr : Rs g w w') (hg : g < base) : RO w' base a c M := h.same (Same.rs hr hg)
end Go.Proofs.YtgkoiojelckblaaGreatDoor

namespace Go.Proofs.YtgkoiojelckblaaGreatDoor
open Go.RowKit
attribute [local go_sem ↓] Go.wp_at_zero Go.wp_at_succ

def ruV (nm : ByteArray) (sal : Int) (p e a : Value) : Value := .agg #[.string nm, .int .i64 sal, p, e, a]
/-- A rule in its box. -/
def RB (w : World) (b : Nat) (nm : ByteArray) (sal : Int) (p e a : Value) : Prop := w.heap[b]? = some (.cells #[.string nm, .int .i64 sal, p, e, a] 41 (0, 0))
/-- A pattern in its box. -/
def PB (w : World) (b : Nat) (neg : Bool) (cls : ByteArray) (t : Value) : Prop := w.heap[b]? = some (.cells #[.bool neg, .string cls, t] 45 (0, 0))
theorem PB.facts {w : World} {b : Nat} {neg : Bool} {cls : ByteArray} {t : Value} (h : PB w b neg cls t) : (w.cell? ⟨b, 0, none⟩ = some (.bool neg) ∧ w.cell? ⟨b, 1, none⟩ = some (.string cls) ∧ w.cell? ⟨b, 2, none⟩ = some t) ∧ (∀ j, w.frozen? ⟨b, j, none⟩ = false) ∧ b < w.heap.size := by
  unfold PB at h
  refine ⟨⟨?_, ?_, ?_⟩, fun j => ?_, lt_of_block' h⟩ <;> simp [World.cell?, World.frozen?, h]
abbrev nilS : Value := .slice none 0 0
theorem RB.facts {w : World} {b : Nat} {nm : ByteArray} {sal : Int} {p e a : Value} (h : RB w b nm sal p e a) : (w.cell? ⟨b, 0, none⟩ = some (.string nm) ∧ w.cell? ⟨b, 1, none⟩ = some (.int .i64 sal) ∧ w.cell? ⟨b, 2, none⟩ = some p ∧ w.cell? ⟨b, 3, none⟩ = some e ∧ w.cell? ⟨b, 4, none⟩ = some a) ∧ (∀ j, w.frozen? ⟨b, j, none⟩ = false) ∧ b < w.heap.size := by
  unfold RB at h
  refine ⟨⟨?_, ?_, ?_, ?_, ?_⟩, fun j => ?_, lt_of_block' h⟩ <;> simp [World.cell?, World.frozen?, h]
theorem infoStrF : (Tryz.prog.info? 9).map (fun i => (i.zero, i.size, i.bytes)) = some (some (.string ⟨#[]⟩), 1, 16) := by kernel_rfl
theorem infoTmF : (Tryz.prog.info? 49).map (fun i => (i.zero, i.size, i.bytes)) = some (some (.agg #[.int .i64 0, .int .i64 0, .string ⟨#[]⟩, .int .i64 0, .int .i64 0, .string ⟨#[]⟩]), 6, 64) := by kernel_rfl
theorem infoPtF : (Tryz.prog.info? 45).map (fun i => (i.zero, i.size, i.bytes)) = some (some (.agg #[.bool false, .string ⟨#[]⟩, .slice none 0 0]), 3, 48) := by kernel_rfl
theorem strs_oneD (ks : List ByteArray) : ∀ u ∈ ks.map Value.string, u.oneCell' = true := by
  intro u hu
  obtain ⟨s, _, rfl⟩ := List.mem_map.1 hu
  rfl
theorem SO_news {w : World} {base n : Nat} {e : TypeId} {a : Option Addr} {c : Nat} {xs : List Value} (h : w.ownsRow base e 1 (.slice a n c) n xs) : (a = none → n = 0) ∧ ∀ ad, a = some ad → ∀ (j : Nat) u, xs[j]? = some u → w.cell? (ad.add j) = some u := by
  constructor
  · intro ha
    rcases h.2 with ⟨_, h0⟩ | ⟨g, cap, cur, he, _⟩
    · exact h0
    · subst ha
      simp at he
  · intro ad ha j u hu
    obtain ⟨g, hg, _, hc, _⟩ := owns_cell h hu
    rw [hg] at ha
    injection ha with ha
    subst ha
    rw [Addr.add_mid, Nat.zero_add]
    exact hc
theorem nmK_eq (k : Nat) (hk : k < 10) : (⟨#[114]⟩ : ByteArray) ++ digB k = nmK k := by
  have : ∀ k : Fin 10, (⟨#[114]⟩ : ByteArray) ++ digB k.val = nmK k.val := by decide
  exact this ⟨k, hk⟩
/-- What is known of the patterns drawn so far. -/
def PK (L : List PtV) (K : List ByteArray) (pos : Nat) : Prop := patsGo (L.map Prod.fst) [] 1 = .inr K ∧ positives (L.map Prod.fst) = pos
theorem PK.nil : PK [] [] 0 := ⟨rfl, rfl⟩
theorem PK.snoc {L : List PtV} {K K' H : List ByteArray} {pos pos' : Nat} {neg : Bool} {cls : ByteArray} {ts : List Tm} {v : Value} (h : PK L K pos) (ht : termsGo ts K = some H) (hp : pos' = pos ∧ neg = true ∨ pos' = pos + 1 ∧ neg = false) (hK : K' = (if neg then K else H)) : PK (L ++ [(⟨neg, cls, ts⟩, v)]) K' pos' := by
  constructor
  · rw [List.map_append, hK]
    exact patsGo_snoc h.1 (p := ⟨neg, cls, ts⟩) ht
  · have := h.2
    unfold positives at this ⊢
    rw [List.map_append, List.countP_append, this]
    rcases hp with ⟨rfl, rfl⟩ | ⟨rfl, rfl⟩ <;> rfl
theorem tm_name {K : List ByteArray} {t : Tm} (h : TmSmK K t) (hk : (t.kind == 2) = true) : GNm t.var := by
  refine ⟨h.1.1, ?_⟩
  have h2 := h.1.2.2
  have e : t.kind = 2 := by simpa using hk
  simp [gTm, e] at h2
  exact h2.2.1
theorem infoAcF : (Tryz.prog.info? 53).map (fun i => (i.zero, i.size, i.bytes)) = some (some (.agg #[.int .i64 0, .int .i64 0, .string ⟨#[]⟩, .slice none 0 0]), 4, 56) := by kernel_rfl
/-- An action in its box. -/
def AB (w : World) (b : Nat) (x0 x1 x2 x3 : Value) : Prop := w.heap[b]? = some (.cells #[x0, x1, x2, x3] 53 (0, 0))
theorem AB.facts {w : World} {b : Nat} {x0 x1 x2 x3 : Value} (h : AB w b x0 x1 x2 x3) : (w.cell? ⟨b, 0, none⟩ = some x0 ∧ w.cell? ⟨b, 1, none⟩ = some x1 ∧ w.cell? ⟨b, 2, none⟩ = some x2 ∧ w.cell? ⟨b, 3, none⟩ = some x3) ∧ (∀ j, w.frozen? ⟨b, j, none⟩ = false) ∧ b < w.heap.size := by
  unfold AB at h
  refine ⟨⟨?_, ?_, ?_, ?_⟩, fun j => ?_, lt_of_block' h⟩ <;> simp [World.cell?, World.frozen?, h]
theorem Qs.setQ {g b o : Nat} {ow : Option Nat} {u v : World} {x : Value} (h : Qs g b ow u v) (hg : g < b) : Qs g b ow u (v.setCell ⟨b, o, none⟩ x) :=
  ⟨h.rest.setCell (Nat.zero_le _) _, fun k hk h1 h2 h3 => (Below.heap_setCell _ _ _ _ (by simpa using h2)).trans (h.block k hk h1 h2 h3), h.rdr.old ((Below.refl _ _).setCell (by simp; omega) _)⟩
/-- What the actions' loop keeps: the rule in its box, its actions an owned row. -/
def AQ (K : List ByteArray) (pos : Nat) (w : World) (b base : Nat) (x0 x1 x2 : Value) (Ys : List AcV) : Prop := ∃ (aa : Option Addr) (ac : Nat) (a : Option Addr) (c : Nat) (xs : List Ex) (m : Nat), QB w b base x0 x1 x2 (.slice aa Ys.length ac) a c xs ∧ (xs.length ≤ 7 * m ∧ xs.length ≤ 50 + m ∧ m ≤ 3 * Ys.length ∧ ActsT K pos 0 xs (Ys.map Prod.fst)) ∧ AcO w base aa ac Ys
theorem acts_put {K : List ByteArray} {pos m m' : Nat} {xs ys : List Ex} {Ys : List AcV} {A : Ac} {v : Value} (h : ActsT K pos 0 xs (Ys.map Prod.fst)) (hA : fieldsOk A = true ∧ A.args.length ≤ 6 ∧ refOk pos A = true) (ht : Trees K xs.length ys A.args) (h7 : (xs ++ ys).length ≤ 7 * m') (h5 : (xs ++ ys).length ≤ 50 + m') (hm : m' ≤ m + 3) (hm3 : m ≤ 3 * Ys.length) :
    (xs ++ ys).length ≤ 7 * m' ∧ (xs ++ ys).length ≤ 50 + m' ∧ m' ≤ 3 * (Ys ++ [(A, v)]).length ∧ ActsT K pos 0 (xs ++ ys) ((Ys ++ [(A, v)]).map Prod.fst) := by
  refine ⟨h7, h5, by simp; omega, ?_⟩
  rw [List.map_append]
  exact h.snoc hA (by simpa using ht)
theorem ac_halt (pos : Nat) : fieldsOk ⟨4, 0, ⟨#[]⟩, []⟩ = true ∧ (⟨4, 0, ⟨#[]⟩, []⟩ : Ac).args.length ≤ 6 ∧ refOk pos ⟨4, 0, ⟨#[]⟩, []⟩ = true := ⟨by simp [fieldsOk, isE_em'], by simp, by simp [refOk]⟩
theorem ac_drop {pos : Nat} {z : Int} (h : 1 ≤ z ∧ z ≤ (pos : Int)) (hp : pos ≤ 3) : fieldsOk ⟨2, z, ⟨#[]⟩, []⟩ = true ∧ (⟨2, z, ⟨#[]⟩, []⟩ : Ac).args.length ≤ 6 ∧ refOk pos ⟨2, z, ⟨#[]⟩, []⟩ = true := ⟨by simp [fieldsOk, isE_em', kOk]; omega, by simp, by simp [refOk]; omega⟩
theorem ac_mod {pos : Nat} {z : Int} {zs : List Int} (h : 1 ≤ z ∧ z ≤ (pos : Int)) (hp : pos ≤ 3) (hz : zs.length ≤ 3) : fieldsOk ⟨3, z, ⟨#[]⟩, zs⟩ = true ∧ (⟨3, z, ⟨#[]⟩, zs⟩ : Ac).args.length ≤ 6 ∧ refOk pos ⟨3, z, ⟨#[]⟩, zs⟩ = true := ⟨by simp [fieldsOk, isE_em', kOk]; omega, by simp; omega, by simp [refOk]; omega⟩
theorem ac_add {pos : Nat} {cl : ByteArray} {zs : List Int} (h : GCl cl) (hz : zs.length ≤ 3) : fieldsOk ⟨1, 0, cl, zs⟩ = true ∧ (⟨1, 0, cl, zs⟩ : Ac).args.length ≤ 6 ∧ refOk pos ⟨1, 0, cl, zs⟩ = true := ⟨by simp [fieldsOk, h.2], by simp; omega, by simp [refOk]⟩
theorem AcO.snoc {w w9 : World} {base : Nat} {a a9 : Option Addr} {c c9 : Nat} {Y : List AcV} {x : AcV} (h : AcO w base a c Y) (hx : AcP w base x) (ho : w9.ownsRow base 53 4 (.slice a9 (Y.length + 1) c9) (Y.length + 1) (Y.flatMap acells ++ acells x)) (hg : w.grownBy w9 (Value.slice a Y.length c).ownBlock) : AcO w9 base a9 c9 (Y ++ [x]) := by
  refine ⟨by simpa using ho, fun y hy => ?_⟩
  have hy' : AcP w base y := by
    rcases List.mem_append.1 hy with hy | hy
    · exact h.2 y hy
    · simp at hy
      exact hy ▸ hx
  exact ⟨hy'.1, own_grown (t := 53) hy'.2 hg (fun k hk => own_type h.1 hk) (by decide)⟩
theorem lift_ab2k {P : World → Prop} {w : World} {ab pos : Nat} {kd kk : Int} {x0 x1 x2 x3 : Value} (hA : AB w ab x0 x1 x2 x3) (hk : 1 ≤ kk ∧ kk ≤ (pos : Int)) (h : ∀ wt z, (1 ≤ z ∧ z ≤ (pos : Int)) → AB wt ab (.int .i64 kd) (.int .i64 z) x2 x3 → Turned w wt ab → P wt) : P ((w.setCell ⟨ab, 0, none⟩ (.int .i64 kd)).setCell ⟨ab, 1, none⟩ (.int .i64 kk)) :=
  h _ kk hk (by have := heap_setCell_same (i := 1) (heap_setCell_same (i := 0) hA (.int .i64 kd)) (.int .i64 kk); simpa [AB] using this) (Turned.setCells [.int .i64 kd, .int .i64 kk] 0 w ab)
theorem lift_ab1 {P : World → Prop} {w : World} {ab : Nat} {x0 x1 x2 x3 v : Value} (hA : AB w ab x0 x1 x2 x3) (h : ∀ wt, AB wt ab v x1 x2 x3 → Turned w wt ab → P wt) : P (w.setCell ⟨ab, 0, none⟩ v) :=
  h _ (by have := heap_setCell_same (i := 0) hA v; simpa [AB] using this) (Turned.setCells [v] 0 w ab)
theorem lift_ab3 {P : World → Prop} {w : World} {ab : Nat} {x0 x1 x2 x3 v : Value} (hA : AB w ab x0 x1 x2 x3) (h : ∀ wt, AB wt ab x0 x1 x2 v → Turned w wt ab → P wt) : P (w.setCell ⟨ab, 3, none⟩ v) :=
  h _ (by have := heap_setCell_same (i := 3) hA v; simpa [AB] using this) (Turned.setCells [v] 3 w ab)
theorem lift_abc {P : World → Prop} {w : World} {ab : Nat} {x0 x1 x2 x3 v : Value} (hA : AB w ab x0 x1 x2 x3) (h : ∀ wt, AB wt ab x0 x1 v x3 → Turned w wt ab → P wt) : P (w.setCell ⟨ab, 2, none⟩ v) :=
  h _ (by have := heap_setCell_same (i := 2) hA v; simpa [AB] using this) (Turned.setCells [v] 2 w ab)
theorem Rs.qs {g b : Nat} {o : Option Nat} {u v : World} (h : Qs g b o u v) (w0 : World) (h0 : Rs g w0 u) (hb : w0.heap.size ≤ b) (ho : ∀ k, o = some k → w0.heap.size ≤ k) : Rs g w0 v :=
  ⟨⟨h0.1.rest.trans h.rest, fun k hk hne => (h.block k (Nat.lt_of_lt_of_le hk h0.1.rest.size) (fun e => hne (by rw [e])) (by omega) (fun e => by have := ho k e; omega)).trans (h0.1.block k hk hne)⟩, h.rdr⟩
theorem PO.qs {w w' : World} {base g b : Nat} {o : Option Nat} {a : Option Addr} {c : Nat} {L : List PtV} {cb : Array Value} (h : PO w base a c L) (hq : Qs g b o w w') (hg : g < base) (hb : w.heap[b]? = some (.cells cb 41 (0, 0))) (ho : o = none) : PO w' base a c L := by
  subst ho
  have key : ∀ {e : TypeId} {m : Nat} {v : Value} {n : Nat} {xs : List Value}, w.ownsRow base e m v n xs → e ≠ 41 → w'.ownsRow base e m v n xs := fun hh hne => owns_of_block hh fun k hk => hq.block k (hh.lt k hk).2 (by have := (hh.lt k hk).1; omega) (fun e => by
    obtain ⟨cc, hcc⟩ := own_type hh hk
    subst e
    exact own_far hcc hb hne) (by simp)
  exact ⟨key h.1 (by decide), fun x hx => ⟨(h.2 x hx).1, key (h.2 x hx).2.1 (by decide), (h.2 x hx).2.2⟩⟩
theorem mod8 {n c : Nat} (h : n % 8 = c) : (n : Int) % 8 = (c : Int) := by omega
theorem infoRuS : (Tryz.prog.info? 41).map (·.size) = some 5 := by kernel_rfl
set_option maxRecDepth 100000 in
set_option maxHeartbeats 12800000 in
theorem l2DrawRule_any (g k : Nat) (w : World) (h : Rdr w g) (hk : k < 10) :
    Calls Tryz.prog 27 #[.pointer (some ⟨g, 0, none⟩), .int .i64 (k : Int)] w fun e w' => ∃ x : RuX, e = .returned (ruV x.nm x.sal x.pv x.ev x.av) ∧ DRu k x.ru ∧ (-9223372036854775808 ≤ x.sal ∧ x.sal ≤ 9223372036854775807) ∧ RuP w' w.heap.size x ∧ Rs g w w' := by
  have H := hidR h
  have hlt := h.lt
  clear h
  have HA := hidR (fun o => (Below.refl _ _).alloc (Nat.le_refl _) o : ∀ o, Below w.heap.size w (w.alloc o))
  have HRa := hidR (fun o => H.out.bel (HA.out o))
  go_enter Tryz.func27, Tryz.ntmps27
  go_wp2_with fail
  refine (next_any g _ (HRa.out _)).mono ?_
  rintro e w1 ⟨n1, hn1, rfl, hr1⟩
  have RB1 := hidR (block_rs hr1 (heap_alloc_new _ _) (by omega))
  have R1 := hidR ((Rs.of H.out (HA.out _)).trans hr1)
  have hs1 : w.heap.size < w1.heap.size := lt_of_block' RB1.out
  clear hr1 HA HRa H
  go_wp2_with fail
  refine (l1Dec_any k w1 hk).mono ?_
  rintro e w2 ⟨rfl, hb2⟩
  have hs2 := hb2.size
  have RB2 := hidR ((hb2.block _ hs1).trans RB1.out)
  have R2 := hidR (R1.out.bel hb2)
  clear hb2 RB1 R1
  go_upto_if 28 with fail
  refine lift_alloc ?_
  intro w3 hW3 hq3
  obtain ⟨nm, hnm⟩ : ∃ nm, nm = (⟨#[114]⟩ : ByteArray) ++ digB k := ⟨_, rfl⟩
  have HNK := hidR (show nm = nmK k from by rw [hnm]; exact nmK_eq k hk)
  have hs3 := hW3.size
  have RB3 := hidR (show RB w3 w.heap.size _ _ _ _ _ from (hW3.block _ (by omega)).trans RB2.out)
  have Q3 := hidR (show RB w3 w2.heap.size _ _ _ _ _ from hq3)
  have R3 := hidR (R2.out.bel hW3)
  clear hW3 hq3 RB2 R2
  go_cut [] (fun wx => ∃ sal, (-9223372036854775808 ≤ sal ∧ sal ≤ 9223372036854775807) ∧ RB wx w2.heap.size (⟨#[114]⟩ ++ digB k) sal nilS nilS nilS ∧ RB wx w.heap.size ⟨#[]⟩ 0 nilS nilS nilS ∧ Rs g w wx)
  case first =>
    obtain ⟨⟨f0, f1, f2, f3, f4⟩, z, hlt3⟩ := Q3.out.facts
    have z1 := z 1
    clear z
    by_cases h255 : n1 = 255
    · subst h255
      go_wp2_with fail
      go_meet
      exact ⟨-9223372036854775808, by omega, by have := heap_setCell_same (i := 1) Q3.out (.int .i64 (-9223372036854775808)); simpa [RB] using this, (Below.heap_setCell _ _ _ _ (by simp; omega)).trans RB3.out, R3.out.setOwn (by omega) hlt⟩
    · have h255' : ¬ (n1 : Int) = 255 := by omega
      go_wp2_with fail
      go_meet
      exact ⟨_, by omega, Q3.out, RB3.out, R3.out⟩
  case rest =>
    obtain ⟨sal, hsal, hq, hrb, hR⟩ := hcut
    have Q4 := hidR hq
    have RB4 := hidR hrb
    have R4 := hidR hR
    obtain ⟨n0, hn0⟩ : ∃ n0, n0 = 1 + n1 / 5 % 4 := ⟨_, rfl⟩
    have hn0e : 1 + (n1 : Int) / 5 % 4 = (n0 : Int) := by omega
    have hn01 : 1 ≤ n0 ∧ n0 ≤ 4 := by omega
    obtain ⟨bq, hbq⟩ : ∃ bq, bq = w2.heap.size := ⟨_, rfl⟩
    have hbqw : w.heap.size < bq := by omega
    have hs4 := hR.1.rest.size
    rw [← hbq] at Q4 ⊢
    clear hq hrb hR Q3 RB3 R3 hn0 hbq
    rw [← hnm] at Q4
    clear hnm
    go_wp2_with fail
    clear hn0e
    go_loopw [7, 8, 9] (fun posv kv nv wr => ∃ (pos : Nat) (L : List PtV) (pa : Option Addr) (pc : Nat) (ka : Option Addr) (kn kc : Nat) (K : List ByteArray), posv = .int .i64 (pos : Int) ∧ kv = .slice ka kn kc ∧ nv = .int .i64 ((n0 : Int) - (L.length : Int)) ∧ pos ≤ 3 ∧ pos ≤ L.length ∧ L.length ≤ 6 ∧ (pos = 0 → L.length ≤ 5) ∧ RB wr bq nm sal (.slice pa L.length pc) nilS nilS ∧ RB wr w.heap.size ⟨#[]⟩ 0 nilS nilS nilS ∧ PO wr w.heap.size pa pc L ∧ SO K wr w.heap.size ka kn kc ∧ kn ≤ 3 * L.length ∧ PK L K pos ∧ Rs g w wr) (fun _ _ nv _ => (intOf nv + 10).toNat)
    case atStart => exact ⟨0, [], none, 0, none, 0, 0, [], rfl, rfl, by simp, by omega, by simp, by simp, by simp, Q4.out, RB4.out, PO.nil _ _, ⟨by omega, [], ⟨rfl, rfl⟩, by simp, World.ownsRow_nil _ _ _ _⟩, by simp, PK.nil, R4.out⟩
    case round =>
      obtain ⟨pos, L, pa, pc, ka, kn, kc, K, rfl, rfl, rfl, hp3, hpL, hL6, hp0, hq, hrb, hPO, hSO, hkn, hPK, hR⟩ := hrel
      have HPK := hidR hPK
      clear hPK
      have Q := hidR hq
      have RBr := hidR hrb
      have PL := hidR hPO
      have KO := hidR hSO
      have R := hidR hR
      have hsr := hR.1.rest.size
      clear hq hrb hPO hSO hR Q4 RB4 R4
      by_cases hgo : L.length < n0 ∨ pos = 0
      · go_upto_region 8 with fail
        go_cut [39] (fun c wx => c = .bool true ∧ wr = wx)
        case first =>
          by_cases hmn : L.length < n0
          · have hmn' : (0 : Int) < (n0 : Int) - (L.length : Int) := by omega
            go_wp2_with fail
            go_meet
            exact ⟨rfl, rfl⟩
          · have hmn' : ¬ (0 : Int) < (n0 : Int) - (L.length : Int) := by omega
            have hpe : ((pos : Int) == 0) = true := by simp; omega
            go_wp2_with fail
            go_meet
            exact ⟨by simp, rfl⟩
        case rest =>
          obtain ⟨hc1, hc2⟩ := hcut
          subst hc1
          subst hc2
          have HRr := hidR R.out.2
          go_wp2_with fail
          refine (next_any g _ HRr.out).mono ?_
          rintro e wa ⟨n2, hn2, rfl, hra⟩
          have RA := hidR hra
          have hsa := hra.1.rest.size
          clear hra HRr
          go_upto_region 11 with fail
          go_cut [11] (fun pv wx => ∃ (pb : Nat) (neg : Bool) (cls : ByteArray), pv = .pointer (some ⟨pb, 0, none⟩) ∧ wr.heap.size ≤ pb ∧ PB wx pb neg cls nilS ∧ GCl cls ∧ (neg = false → pos ≠ 3) ∧ Rs g wr wx)
          case first =>
            by_cases h43 : n2 % 4 = 3
            · go_wp2_with fail
              refine (l1Cls_any n2 wa).mono ?_
              rintro e wb ⟨cls, hcls, rfl, hbb⟩
              have RBb := hidR (RA.out.bel hbb)
              have hsb := hbb.size
              clear hbb
              go_wp2_with fail
              go_meet
              exact ⟨wb.heap.size, true, cls, rfl, by omega, heap_alloc_new _ _, hcls, by simp, RBb.out.bel ((Below.refl _ _).alloc (Nat.le_refl _) _)⟩
            · have h43' : ((n2 : Int) % 4 == 3) = false := by simp; omega
              go_wp2_with fail
              refine (l1Cls_any n2 wa).mono ?_
              rintro e wb ⟨cls, hcls, rfl, hbb⟩
              have RBb := hidR (RA.out.bel hbb)
              have hsb := hbb.size
              clear hbb
              cases hp33' : ((pos : Int) == 3)
              rotate_left
              · have HP := hidR hp33'
                go_wp2_with fail
                go_meet
                exact ⟨wb.heap.size, true, cls, rfl, by omega, heap_alloc_new _ _, hcls, by simp, RBb.out.bel ((Below.refl _ _).alloc (Nat.le_refl _) _)⟩
              · have HP := hidR hp33'
                go_wp2_with fail
                go_meet
                exact ⟨wb.heap.size, false, cls, rfl, by omega, heap_alloc_new _ _, hcls, fun _ hh => by subst hh; simp at hp33', RBb.out.bel ((Below.refl _ _).alloc (Nat.le_refl _) _)⟩
          case rest =>
            obtain ⟨pb, neg, cls, rfl, hpb, hPB, hcls, hneg, hRp⟩ := hcut
            obtain ⟨wp, rfl⟩ : ∃ v, v = wc := ⟨wc, rfl⟩
            have P1 := hidR hPB
            have RP := hidR hRp
            have Q1 := hidR (show RB wp bq nm sal (.slice pa L.length pc) nilS nilS from block_rs hRp Q.out (by omega))
            have hsp := hRp.1.rest.size
            clear hPB hRp RA
            go_upto_region 12 with fail
            go_cut [61] (fun c wx => c = .bool (((L.length : Int) == 5) && ((pos : Int) == 0)) ∧ wp = wx)
            case first =>
              obtain ⟨⟨f0, f1, f2, f3, f4⟩, z, hlt3⟩ := Q1.out.facts
              clear z
              cases h5 : ((L.length : Int) == 5)
              · go_wp2_with fail
                go_meet
                exact ⟨by simp [h5], rfl⟩
              · cases hpz : ((pos : Int) == 0)
                · go_wp2_with fail
                  go_meet
                  exact ⟨by simp [h5, hpz], rfl⟩
                · go_wp2_with fail
                  go_meet
                  exact ⟨by simp [h5, hpz], rfl⟩
            case rest =>
              obtain ⟨hc1, hc2⟩ := hcut
              subst hc1
              subst hc2
              go_upto_if 61 with fail
              go_cut [] (fun wx => ∃ neg', PB wx pb neg' cls nilS ∧ (neg' = false → pos ≠ 3) ∧ (L.length = 5 → pos = 0 → neg' = false) ∧ Rs g wr wx)
              case first =>
                obtain ⟨⟨p0, p1, p2⟩, z, hltp⟩ := P1.out.facts
                have z0 := z 0
                clear z
                cases hcb : (((L.length : Int) == 5) && ((pos : Int) == 0))
                · go_wp2_with fail
                  go_meet
                  exact ⟨neg, P1.out, hneg, fun h1 h2 => by rw [h1, h2] at hcb; simp at hcb, RP.out⟩
                · go_wp2_with fail
                  go_meet
                  refine ⟨false, ?_, fun _ h3 => by rw [h3] at hcb; simp at hcb, fun _ _ => rfl, RP.out.setOwn hpb (by omega)⟩
                  have := heap_setCell_same (i := 0) P1.out (.bool false)
                  simpa [PB] using this
              case rest =>
                obtain ⟨neg', hPB', hneg', hneg5, hRq⟩ := hcut
                obtain ⟨wq, rfl⟩ : ∃ v, v = wc := ⟨wc, rfl⟩
                have P2 := hidR hPB'
                have RQ := hidR hRq
                have hsq := hRq.1.rest.size
                have hgr : g < wr.heap.size := by omega
                obtain ⟨hk1000, ks, hksl, hkss, hkown⟩ := KO.out.rs RQ.out hlt
                have HKN := hidR (SO_news hkown)
                have HKL := hidR hksl
                have HKS := hidR hkss
                clear hPB' hRq hkown hksl hkss P1 RP Q1 hneg
                go_upto_region 16 with (first | (at_builtin; refine wpList_append_any (by rfl) (.tmp 63) (.tmp 64) 102 (by rfl) wq.heap.size 9 _ 1 16 Tryz.underlying102 infoStrF (by rfl) (by omega) _ 0 [] (by rfl) (World.ownsRow_nil _ _ _ _) ka kn kc (by rfl) (ks.map Value.string) (by simp [HKL.out.2]) HKN.out.1 HKN.out.2 (strs_oneD ks) (by unfold maxLen; omega) (by omega) (Nat.le_refl _) ?_; intro a3 c3 w3 ho3 hg3 hl3; simp only [Nat.zero_add]) | fail)
                have RH := hidR (RQ.out.grown hg3.out (fun k hk => by simp [Value.ownBlock] at hk) hgr)
                have HS3 := hidR (show SO K w3 wr.heap.size a3 kn c3 from ⟨hk1000, ks, HKL.out, HKS.out, by have := ho3.out; rw [Nat.zero_add, List.nil_append] at this; exact owns_base this hsq⟩)
                have P3 := hidR (show PB w3 pb neg' cls nilS from (hg3.out.block pb (lt_of_block' P2.out) (by simp [Value.ownBlock])).trans P2.out)
                have hs3' := hg3.out.size
                clear ho3 hg3 hl3 HKN HKL HKS P2 RQ
                go_cut [13] (fun mv wx => ∃ m0 : Nat, m0 ≤ 3 ∧ mv = .int .i64 (m0 : Int) ∧ Below w3.heap.size w3 wx)
                case first =>
                  have h6 : n2 / 12 % 6 = 0 ∨ n2 / 12 % 6 = 1 ∨ n2 / 12 % 6 = 2 ∨ n2 / 12 % 6 = 3 ∨ n2 / 12 % 6 = 4 ∨ n2 / 12 % 6 = 5 := by omega
                  rcases h6 with h6 | h6 | h6 | h6 | h6 | h6
                  all_goals
                    go_wp2_with fail
                    go_meet
                  · exact ⟨1, by omega, rfl, (Below.refl _ _).alloc (Nat.le_refl _) _⟩
                  · exact ⟨2, by omega, rfl, (Below.refl _ _).alloc (Nat.le_refl _) _⟩
                  · exact ⟨2, by omega, rfl, (Below.refl _ _).alloc (Nat.le_refl _) _⟩
                  · exact ⟨1, by omega, rfl, (Below.refl _ _).alloc (Nat.le_refl _) _⟩
                  · exact ⟨0, by omega, rfl, (Below.refl _ _).alloc (Nat.le_refl _) _⟩
                  · exact ⟨3, by omega, rfl, (Below.refl _ _).alloc (Nat.le_refl _) _⟩
                case rest =>
                  obtain ⟨m0, hm3, rfl, hb4⟩ := hcut
                  obtain ⟨w4, rfl⟩ : ∃ v, v = wc := ⟨wc, rfl⟩
                  have RI := hidR (RH.out.bel hb4)
                  have SI := hidR (show SO K w4 wr.heap.size a3 kn c3 from by obtain ⟨q1, q2, q3, q4, q5⟩ := HS3.out; exact ⟨q1, q2, q3, q4, own_bel q5 hb4⟩)
                  have PI := hidR (show PB w4 pb neg' cls nilS from (hb4.block pb (lt_of_block' P3.out)).trans P3.out)
                  have hs4' := hb4.size
                  clear hb4 RH HS3 P3
                  obtain ⟨wR, rfl⟩ : ∃ v, v = wr := ⟨wr, rfl⟩
                  go_wp2_with fail
                  go_loopw [12, 13] (fun hv mv wr => ∃ (j : Nat) (ha : Option Addr) (hn hc : Nat) (ta : Option Addr) (tc : Nat) (ts : List Tm) (Hh : List ByteArray), mv = .int .i64 (j : Int) ∧ hv = .slice ha hn hc ∧ ts.length + j = m0 ∧ SO Hh wr wR.heap.size ha hn hc ∧ hn ≤ kn + ts.length ∧ termsGo ts K = some Hh ∧ PB wr pb neg' cls (.slice ta ts.length tc) ∧ wr.ownsRow wR.heap.size 49 6 (.slice ta ts.length tc) ts.length (ts.flatMap tmCells) ∧ (∀ t ∈ ts, TmSm t) ∧ Rs g wR wr) (fun _ mv _ => (intOf mv).toNat)
                  case atStart => exact ⟨m0, a3, kn, c3, none, 0, [], K, rfl, rfl, by simp, SI.out, by simp, rfl, PI.out, World.ownsRow_nil _ _ _ _, by simp, RI.out⟩
                  case round =>
                    obtain ⟨j, ha, hn, hc, ta, tc, ts, Hh, rfl, rfl, hj, hSO, hhn, htg, hPB, hTO, htsm, hRi⟩ := hrel
                    have HJ := hidR hj
                    have HTG := hidR htg
                    clear htg
                    have htl : ts.length ≤ 3 := by omega
                    have hj3 : j ≤ 3 := by omega
                    have SOi := hidR hSO
                    have PBi := hidR hPB
                    have TOi := hidR hTO
                    have HTS := hidR htsm
                    have Ri := hidR hRi
                    have hsi := hRi.1.rest.size
                    clear hj hSO hPB hTO htsm hRi SI PI RI
                    by_cases hj0 : j = 0
                    · clear HJ
                      subst hj0
                      have RW := hidR (R.out.trans Ri.out)
                      have Qi := hidR (show RB wr bq nm sal (.slice pa L.length pc) nilS nilS from block_rs Ri.out Q.out (by omega))
                      have RBi := hidR (show RB wr w.heap.size ⟨#[]⟩ 0 nilS nilS nilS from block_rs Ri.out RBr.out (by omega))
                      have PLi := hidR (PL.out.rs Ri.out hlt)
                      have KOi := hidR (KO.out.rs Ri.out hlt)
                      have SOw := hidR (show SO Hh wr w.heap.size ha hn hc from by obtain ⟨q1, q2, q3, q4, q5⟩ := SOi.out; exact ⟨q1, q2, q3, q4, owns_base q5 hsr⟩)
                      have NX := hidR (show PtX wr w.heap.size (⟨neg', cls, ts⟩, .slice ta ts.length tc) from ⟨⟨ta, tc, rfl⟩, owns_base TOi.out hsr, hcls, htl, HTS.out⟩)
                      obtain ⟨⟨p0, p1, p2⟩, z, hpbl⟩ := PBi.out.facts
                      clear z SOi TOi HTS Q RBr PL KO R
                      go_upto_if 95 with fail
                      go_cut [7, 8] (fun pv kv wx => ∃ (pos' : Nat) (ka' : Option Addr) (kn' kc' : Nat) (K' : List ByteArray), pv = .int .i64 (pos' : Int) ∧ kv = .slice ka' kn' kc' ∧ (pos' = pos ∧ neg' = true ∨ pos' = pos + 1 ∧ neg' = false) ∧ SO K' wr w.heap.size ka' kn' kc' ∧ K' = (if neg' then K else Hh) ∧ kn' ≤ 3 * L.length + 3 ∧ wr = wx)
                      case first =>
                        cases hng : neg'
                        · rw [hng] at p0
                          go_wp2_with fail
                          go_meet
                          exact ⟨pos + 1, ha, hn, hc, Hh, by go_num, rfl, .inr ⟨rfl, by first | rfl | exact hng⟩, SOw.out, by simp [hng], by omega, rfl⟩
                        · rw [hng] at p0
                          go_wp2_with fail
                          go_meet
                          exact ⟨pos, ka, kn, kc, K, rfl, rfl, .inl ⟨rfl, by first | rfl | exact hng⟩, KOi.out, by simp [hng], by omega, rfl⟩
                      case rest =>
                        obtain ⟨pos', ka', kn', kc', K', rfl, rfl, hpos', hSO', hK', hkn', hcw⟩ := hcut
                        subst hcw
                        have SOz := hidR hSO'
                        have HPO := hidR hpos'
                        clear hSO' hpos' KOi SOw
                        obtain ⟨⟨f0, f1, f2, f3, f4⟩, z, hlq⟩ := Qi.out.facts
                        clear z
                        have HWi := hidR (fun o => (Below.refl _ _).alloc (Nat.le_refl _) o : ∀ o, Below wr.heap.size wr (wr.alloc o))
                        have TY := hidR (fun o k hk => own_type (own_bel PLi.out.1 (HWi.out o)) (k := k) hk)
                        go_wp2_with (first | (at_builtin; refine wpList_append_any (by rfl) (.tmp 100) (.tmp 102) 37 (by rfl) w.heap.size 45 _ 3 48 Tryz.underlying37 infoPtF (by rfl) (by omega) _ L.length _ (by rfl) (own_bel PLi.out.1 (HWi.out _)) (some ⟨_, 0, none⟩) 1 1 (by rfl) (pcells (⟨neg', cls, ts⟩, .slice ta ts.length tc)) (by rfl) (fun e => by cases e) (news_new _ _ _ _ (by simp)) (pcells_one _ rfl) (by unfold maxLen; omega) (by omega) (by simp; omega) ?_; intro a9 c9 w9 ho9 hg9 hl9; have Q9 := hidR (show RB w9 bq nm sal (.slice pa L.length pc) nilS nilS from box_grown (((HWi.out _).block _ hlq).trans Qi.out) hg9.out (TY.out _) (by decide)); obtain ⟨⟨k0, k1, k2, k3, k4⟩, z, hk9⟩ := Q9.out.facts; have z2 := z 2; clear z) | fail)
                        go_roundw
                        case rel =>
                          have hS9 : SO K' w9 w.heap.size ka' kn' kc' := by
                            obtain ⟨q1, q2, q3, q4, q5⟩ := SOz.out
                            exact ⟨q1, q2, q3, q4, own_grown (own_bel q5 (HWi.out _)) hg9.out (TY.out _) (by decide)⟩
                          have hPO9 : PO w9 w.heap.size a9 c9 (L ++ [(⟨neg', cls, ts⟩, .slice ta ts.length tc)]) := PO.snoc (PLi.out.bel (HWi.out _)) (NX.out.bel (HWi.out _)) ho9.out hg9.out
                          have hRB9 : RB w9 w.heap.size ⟨#[]⟩ 0 nilS nilS nilS := box_grown (((HWi.out _).block _ (lt_of_block' RBi.out)).trans RBi.out) hg9.out (TY.out _) (by decide)
                          have hR9 : Rs g w w9 := (RW.out.bel (HWi.out _)).grown hg9.out (fun k hk => (PLi.out.1.lt k hk).1) hlt
                          have hpp : pos' ≤ 3 ∧ pos' ≤ L.length + 1 ∧ (pos' = 0 → L.length + 1 ≤ 5) := by
                            rcases HPO.out with ⟨h1, h2⟩ | ⟨h1, h2⟩
                            · refine ⟨by omega, by omega, fun h0 => ?_⟩
                              have h5 := hp0 (by omega)
                              by_cases hL5 : L.length = 5
                              · have := hneg5 hL5 (by omega)
                                rw [h2] at this
                                cases this
                              · omega
                            · have := hneg' h2
                              exact ⟨by omega, by omega, fun h0 => by omega⟩
                          refine ⟨pos', L ++ [(⟨neg', cls, ts⟩, .slice ta ts.length tc)], a9, c9, ka', kn', kc', K', rfl, rfl, ?_, hpp.1, by simp; omega, by simp; omega, by simp; omega, ?_, ?_, ?_, ?_, by simp; omega, ?_, hR9.setOwn (by omega) hlt⟩
                          · simp
                            omega
                          · have := heap_setCell_same (i := 2) Q9.out (.slice a9 (L.length + 1) c9)
                            simpa [RB] using this
                          · exact (Below.heap_setCell _ _ _ _ (by simp; omega)).trans hRB9
                          · exact hPO9.set Q9.out (by decide) (by decide)
                          · obtain ⟨q1, q2, q3, q4, q5⟩ := hS9
                            exact ⟨q1, q2, q3, q4, own_set q5 Q9.out (by decide)⟩
                          · exact HPK.out.snoc HTG.out HPO.out hK'
                        case measure => (simp [intOf]; omega)
                    · have hj1 : (0 : Int) < (j : Int) := by omega
                      go_wp2_with fail
                      refine (l2DrawTerm_any Hh g ha hn hc wr Ri.out.2 (SOi.out.on hgr)).mono ?_
                      rintro e w5 ⟨t, ht, rfl, hr5⟩
                      have SO5 := hidR (SOi.out.rs hr5 hgr)
                      have PB5 := hidR (show PB w5 pb neg' cls (.slice ta ts.length tc) from block_rs hr5 PBi.out (by omega))
                      have TO5 := hidR (own_rs TOi.out hr5 hgr)
                      have R5 := hidR (Ri.out.trans hr5)
                      have hs5 := hr5.1.rest.size
                      rw [show tmV t = .agg #[.int .i64 t.kind, .int .i64 t.op, .string t.var, .int .i64 t.val.kind, .int .i64 t.val.num, .string t.val.sym] from rfl]
                      clear hr5 SOi PBi TOi Ri
                      go_upto_if 81 with fail
                      refine lift_alloc ?_
                      intro w6 hW6 htb
                      have SO6 := hidR (show SO Hh w6 wR.heap.size ha hn hc from by obtain ⟨q1, q2, q3, q4, q5⟩ := SO5.out; exact ⟨q1, q2, q3, q4, own_bel q5 hW6⟩)
                      have PB6 := hidR (show PB w6 pb neg' cls (.slice ta ts.length tc) from (hW6.block pb (lt_of_block' PB5.out)).trans PB5.out)
                      have TO6 := hidR (own_bel TO5.out hW6)
                      have R6 := hidR (R5.out.bel hW6)
                      have TB6 := hidR htb
                      have hs6 := hW6.size
                      clear hW6 htb SO5 PB5 TO5 R5
                      go_cut [12] (fun hv wx => ∃ (ha' : Option Addr) (hn' hc' : Nat) (H' : List ByteArray), hv = .slice ha' hn' hc' ∧ SO H' wx wR.heap.size ha' hn' hc' ∧ hn' ≤ kn + ts.length + 1 ∧ H' = (if t.kind == 2 then Hh ++ [t.var] else Hh) ∧ PB wx pb neg' cls (.slice ta ts.length tc) ∧ wx.ownsRow wR.heap.size 49 6 (.slice ta ts.length tc) ts.length (ts.flatMap tmCells) ∧ wx.heap[w5.heap.size]? = some (.cells #[.int .i64 t.kind, .int .i64 t.op, .string t.var, .int .i64 t.val.kind, .int .i64 t.val.num, .string t.val.sym] 49 (0, 0)) ∧ Rs g wR wx)
                      case first =>
                        obtain ⟨t0, t1, t2, t3, t4, t5⟩ := cells6 TB6.out
                        cases hk2 : (t.kind == 2)
                        · go_wp2_with fail
                          go_meet
                          exact ⟨ha, hn, hc, Hh, rfl, SO6.out, by omega, by simp [hk2], PB6.out, TO6.out, TB6.out, R6.out⟩
                        · obtain ⟨q1, hs, q2, q3, q4⟩ := SO6.out
                          have HQ4 := hidR q4
                          have HQ2 := hidR q2
                          have HQ3 := hidR q3
                          have hn1000 : hn ≤ 1000 := q1
                          have HW6 := hidR (fun o => (Below.refl _ _).alloc (Nat.le_refl _) o : ∀ o, Below w6.heap.size w6 (w6.alloc o))
                          have htb6 : w5.heap.size < w6.heap.size := lt_of_block' TB6.out
                          clear q1 q2 q3 q4
                          go_wp2_with (first | (at_builtin; refine wpList_append_any (by rfl) (.tmp 82) (.tmp 85) 102 (by rfl) wR.heap.size 9 _ 1 16 Tryz.underlying102 infoStrF (by rfl) (by omega) _ hn _ (by rfl) (own_bel HQ4.out (HW6.out _)) (some ⟨_, 0, none⟩) 1 1 (by rfl) ([.string t.var]) (by rfl) (fun e => by cases e) (news_new _ _ _ _ (by simp)) (by intro u hu; simp at hu; subst hu; rfl) (by unfold maxLen; omega) (by omega) (by simp; omega) ?_; intro a7 c7 w7 ho7 hg7 hl7) | fail)
                          go_meet
                          have ty := fun k hk => own_type (own_bel HQ4.out (HW6.out (.cells #[.string t.var] 9))) (k := k) hk
                          exact ⟨a7, hn + 1, c7, hs ++ [t.var], rfl, ⟨by omega, hs ++ [t.var], ⟨rfl, by simp [HQ2.out.2]⟩, by intro x hx; rcases List.mem_append.1 hx with hx | hx; exact HQ3.out x hx; simp at hx; exact hx ▸ tm_name ht hk2, by simpa using ho7.out⟩, by omega, by rw [HQ2.out.1]; simp [hk2], box_grown (((HW6.out _).block _ (lt_of_block' PB6.out)).trans PB6.out) hg7.out ty (by decide), own_grown (own_bel TO6.out (HW6.out _)) hg7.out ty (by decide), box_grown (((HW6.out _).block _ htb6).trans TB6.out) hg7.out ty (by decide), (R6.out.bel (HW6.out _)).grown hg7.out (fun k hk => (HQ4.out.lt k hk).1) hgr⟩
                      case rest =>
                        obtain ⟨ha', hn', hc', H', rfl, hSO', hhn', hH', hPB', hTO', hTB', hR'⟩ := hcut
                        obtain ⟨w8, rfl⟩ : ∃ v, v = wc := ⟨wc, rfl⟩
                        have SO8 := hidR hSO'
                        have PB8 := hidR hPB'
                        have TO8 := hidR hTO'
                        have R8 := hidR hR'
                        have htb8 : w5.heap.size < w8.heap.size := lt_of_block' hTB'
                        have hpb8 : pb < w8.heap.size := lt_of_block' hPB'
                        have hs8 := hR'.1.rest.size
                        obtain ⟨t0, t1, t2, t3, t4, t5⟩ := cells6 hTB'
                        obtain ⟨⟨p0, p1, p2⟩, z, _⟩ := hPB'.facts
                        have HW8 := hidR (fun o => (Below.refl _ _).alloc (Nat.le_refl _) o : ∀ o, Below w8.heap.size w8 (w8.alloc o))
                        have TY := hidR (fun o k hk => own_type (own_bel TO8.out (HW8.out o)) (k := k) hk)
                        clear hSO' hPB' hTO' hTB' hR' z SO6 PB6 TO6 R6 TB6
                        go_wp2_with (first | (at_builtin; refine wpList_append_any (by rfl) (.tmp 88) (.tmp 90) 43 (by rfl) wR.heap.size 49 _ 6 64 Tryz.underlying43 infoTmF (by rfl) (by omega) _ ts.length _ (by rfl) (own_bel TO8.out (HW8.out _)) (some ⟨_, 0, none⟩) 1 1 (by rfl) (tmCells t) (by rfl) (fun e => by cases e) (news_new _ _ _ _ (by simp)) (tmCells_one t) (by unfold maxLen; omega) (by omega) (by simp; omega) ?_; intro a9 c9 w9 ho9 hg9 hl9; have PB9 := hidR (show PB w9 pb neg' cls (.slice ta ts.length tc) from box_grown (((HW8.out _).block _ hpb8).trans PB8.out) hg9.out (TY.out _) (by decide)); obtain ⟨⟨k0, k1, k2⟩, z, hk9⟩ := PB9.out.facts; have z2 := z 2; clear z) | fail)
                        go_roundw
                        case rel =>
                          have hS9 : SO H' w9 wR.heap.size ha' hn' hc' := by
                            obtain ⟨q1, q2, q3, q4, q5⟩ := SO8.out
                            exact ⟨q1, q2, q3, q4, own_grown (own_bel q5 (HW8.out _)) hg9.out (TY.out _) (by decide)⟩
                          refine ⟨j - 1, ha', hn', hc', a9, c9, ts ++ [t], H', ?_, rfl, by simp; have := HJ.out; omega, ?_, by simp; omega, by rw [hH']; exact termsGo_snoc HTG.out ht.2, ?_, ?_, ?_, ?_⟩
                          · rw [show ((j - 1 : Nat) : Int) = (j : Int) - 1 by omega]
                          · obtain ⟨q1, q2, q3, q4, q5⟩ := hS9
                            exact ⟨q1, q2, q3, q4, own_set q5 PB9.out (by decide)⟩
                          · have := heap_setCell_same (i := 2) PB9.out (.slice a9 (ts.length + 1) c9)
                            simpa [PB] using this
                          · have := own_set (o := 2) (x := .slice a9 (ts.length + 1) c9) ho9.out PB9.out (by decide)
                            simpa using this
                          · intro x hx
                            rcases List.mem_append.1 hx with hx | hx
                            · exact HTS.out x hx
                            · simp at hx
                              exact hx ▸ ht.1
                          · exact ((R8.out.bel (HW8.out _)).grown hg9.out (fun k hk => (TO8.out.lt k hk).1) hgr).setOwn hpb hgr
                        case measure => (simp [intOf]; omega)
      · have hx1 : ¬ (0 : Int) < (n0 : Int) - (L.length : Int) := by omega
        have hx2 : ((pos : Int) == 0) = false := by simp; omega
        have hpos1 : 1 ≤ pos := by omega
        have hL1 : 1 ≤ L.length := by omega
        obtain ⟨wz, rfl⟩ : ∃ v, v = wr := ⟨wr, rfl⟩
        go_wp2_with fail
        refine (next_any g wz R.out.2).mono ?_
        rintro e wL ⟨n3, hn3, rfl, hrL⟩
        have QL := hidR (show RB wL bq nm sal (.slice pa L.length pc) nilS nilS from block_rs hrL Q.out (by omega))
        have RBL := hidR (show RB wL w.heap.size ⟨#[]⟩ 0 nilS nilS nilS from block_rs hrL RBr.out (by omega))
        have PLL := hidR (PL.out.rs hrL hlt)
        have SQL := hidR ((KO.out.rs hrL hlt).q (g := g) (B := wL.heap.size) hlt (show wL.heap[bq]? = some (.cells _ 41 _) from QL.out) (by decide) (Nat.le_refl _))
        have RL := hidR (R.out.trans hrL)
        have hsL := hrL.1.rest.size
        have hgL : g < wL.heap.size := by omega
        have hgbq : g < bq := by omega
        have hbqL : bq < wL.heap.size := lt_of_block' QL.out
        have HWK := hidR (show ∀ s ∈ K, gSym s.data.toList = true from fun s hs => by obtain ⟨_, ks, ⟨rfl, _⟩, q, _⟩ := KO.out; exact (q s hs).2)
        clear hrL Q RBr PL KO R
        obtain ⟨n5, hn5⟩ : ∃ n5, n5 = 1 + n3 % 3 := ⟨_, rfl⟩
        have hn5e : 1 + (n3 : Int) % 3 = (n5 : Int) := by omega
        have hn53 : n5 ≤ 3 := by omega
        clear hn5
        go_wp2_with fail
        clear hn5e
        go_loopw [15] (fun nv wr => ∃ (j : Nat) (Ys : List AcV), nv = .int .i64 (j : Int) ∧ Ys.length + j = n5 ∧ AQ K pos wr bq wL.heap.size (.string nm) (.int .i64 sal) (.slice pa L.length pc) Ys ∧ Qs g bq none wL wr) (fun nv _ => (intOf nv).toNat)
        case atStart => exact ⟨n5, [], rfl, by simp, ⟨none, 0, none, 0, [], 0, ⟨QL.out, World.ownsRow_nil _ _ _ _, fun x hx => by simp at hx⟩, ⟨by simp, by simp, by simp, rfl⟩, AcO.nil _ _⟩, ⟨Below.refl _ _, fun _ _ _ _ _ => rfl, RL.out.2⟩⟩
        case round =>
          obtain ⟨j, Ys, rfl, hj, ⟨aa, ac, a1, c1, xs1, m, hQB, ⟨hm7, hm5, hm3, hAT⟩, hAO⟩, hQS⟩ := hrel
          have HAT := hidR hAT
          clear hAT
          have HJ := hidR hj
          have hj3 : j ≤ 3 := by omega
          have han : Ys.length ≤ 3 := by omega
          have QBr := hidR hQB
          have AOr := hidR hAO
          have QSr := hidR hQS
          have hsr3 := hQS.rest.size
          clear hj hQB hAO hQS
          by_cases hj0 : j = 0
          · clear HJ
            subst hj0
            have RBz := hidR (show RB wr w.heap.size ⟨#[]⟩ 0 nilS nilS nilS from (QSr.out.block _ (lt_of_block' RBL.out) (by omega) (by omega) (by simp)).trans RBL.out)
            have POz := hidR (PLL.out.qs QSr.out hlt QL.out rfl)
            have Rz := hidR (Rs.qs QSr.out w RL.out (by omega) (fun k hk => by cases hk))
            obtain ⟨⟨q0, q1, q2, q3, q4⟩, z, hqz⟩ := (show RB wr bq nm sal (.slice pa L.length pc) (.slice a1 xs1.length c1) (.slice aa Ys.length ac) from QBr.out.1).facts
            clear z
            go_wp2_with (first | (refine wpList_store_blk (by rfl) 41 (.tmp 4) (.tmp 162) (by rfl) w.heap.size [.string nm, .int .i64 sal, .slice pa L.length pc, .slice a1 xs1.length c1, .slice aa Ys.length ac] (by rfl) (by rfl) _ 41 RBz.out (by rfl) infoRuS (by intro u hu; simp at hu; rcases hu with rfl | rfl | rfl | rfl | rfl <;> rfl) ?_; intro wy hky hty) | fail)
            obtain ⟨⟨f0, f1, f2, f3, f4⟩, z, hzy⟩ := (show RB wy w.heap.size nm sal (.slice pa L.length pc) (.slice a1 xs1.length c1) (.slice aa Ys.length ac) from hky.out).facts
            refine bodyPost_ret (v := ruV nm sal (.slice pa L.length pc) (.slice a1 xs1.length c1) (.slice aa Ys.length ac)) (by simp [results, Tryz.results27, go_sem, f0, f1, f2, f3, f4, ruV]) rfl ⟨⟨nm, sal, .slice pa L.length pc, .slice a1 xs1.length c1, .slice aa Ys.length ac, L, xs1, Ys⟩, rfl, ⟨HNK.out, K, pos, ⟨?_, by simpa [RuX.ru] using hL6, ?_, HPK.out.1, ?_, HPK.out.2, ⟨hpos1, hp3⟩, by simp [RuX.ru]; omega, by simp only [RuX.ru]; omega, HAT.out⟩⟩, hsal, ?_, Rz.out.turned hty.out (Nat.le_refl _) hlt⟩
            · show gSym nm.data.toList = true
              rw [HNK.out]
              exact nmK_good k hk
            · intro p hp
              obtain ⟨x, hx, rfl⟩ := List.mem_map.1 hp
              have hX := POz.out.2 x hx
              simp only [gPt, Bool.and_eq_true, decide_eq_true_eq, List.all_eq_true]
              exact ⟨hX.2.2.1.2, by have := hX.2.2.2.1; omega, fun t ht => (hX.2.2.2.2 t ht).2.2⟩
            · exact HWK.out
            · have sm : Same rTys w.heap.size wr wy := Same.kept (fun k hk _ => hty.out.block k hk) RBz.out (by decide)
              have ao : AcO wr w.heap.size aa ac Ys := ⟨owns_base AOr.out.1 (by omega), fun y hy => ⟨(AOr.out.2 y hy).1, owns_base (AOr.out.2 y hy).2 (by omega)⟩⟩
              exact RuP.same ⟨⟨pa, pc, rfl, POz.out⟩, ⟨a1, c1, rfl, owns_base QBr.out.2.1 (by omega), QBr.out.2.2⟩, aa, ac, rfl, ao⟩ sm
          · have hj1 : (0 : Int) < (j : Int) := by omega
            go_wp2_with fail
            refine (next_any g wr QSr.out.rdr).mono ?_
            rintro e w4 ⟨n4, hn4, rfl, hr4⟩
            have QB4 := hidR (QBr.out.rs hr4 (by omega) hgL)
            have AO4 := hidR (AOr.out.rs hr4 hgL)
            have QS4 := hidR (QSr.out.trans (Qs.of (o := none) hr4) (NewOr.refl _ _))
            have hs4'' := hr4.1.rest.size
            clear hr4 QBr AOr QSr
            go_upto_region 32 with fail
            refine lift_alloc ?_
            intro w5 hW5 hab5
            obtain ⟨ab, hab⟩ : ∃ ab, ab = w4.heap.size := ⟨_, rfl⟩
            rw [← hab] at hab5 ⊢
            have AB5 := hidR (show AB w5 ab _ _ _ _ from hab5)
            have QB5 := hidR (QB4.out.bel hW5)
            have AO5 := hidR (AO4.out.bel hW5)
            have QS5 := hidR (QS4.out.bel hW5)
            have SQ5 := hidR (SQL.out.qs QS5.out (fun k hk => by cases hk))
            have AN := hidR (fun k (hk : (Value.slice aa Ys.length ac).ownBlock = some k) => (show k ≠ ab by have := (AO4.out.1.lt k hk).2; omega))
            have EN := hidR (fun (e : (Value.slice a1 xs1.length c1).ownBlock = some ab) => by have := (QB4.out.2.1.lt ab e).2; omega : (Value.slice a1 xs1.length c1).ownBlock ≠ some ab)
            have habL : wL.heap.size ≤ ab := by omega
            have habq : ab ≠ bq := by omega
            have hs5 := hW5.size
            have hab5l : ab < w5.heap.size := lt_of_block' AB5.out
            obtain ⟨⟨b0, b1, b2, b3⟩, z, _⟩ := AB5.out.facts
            have z0 := z 0
            have z1 := z 1
            have z2 := z 2
            have z3 := z 3
            have hposn : ¬ (pos : Int) = 0 := by omega
            have HKK := hidR (show 1 ≤ wrap64 (1 + (n4 : Int) / 8 % (pos : Int)) ∧ wrap64 (1 + (n4 : Int) / 8 % (pos : Int)) ≤ (pos : Int) from by have h1 := Int.emod_nonneg ((n4 : Int) / 8) hposn; have h2 := Int.emod_lt_of_pos ((n4 : Int) / 8) (show (0 : Int) < (pos : Int) by omega); unfold wrap64; omega)
            clear hW5 hab5 hab QB4 AO4 QS4 z
            have h8 : (n4 % 8 = 0 ∨ n4 % 8 = 1 ∨ n4 % 8 = 2) ∨ (n4 % 8 = 3 ∨ n4 % 8 = 4) ∨ (n4 % 8 = 5 ∨ n4 % 8 = 6) ∨ n4 % 8 = 7 := by omega
            have HD8 := hidR hn4
            rcases h8 with h8 | h8 | h8 | h8
            · clear HD8
              rcases h8 with h8 | h8 | h8
              all_goals
                have hI := mod8 h8
                clear h8
                have HCV := hidR (show ((n4 : Int) / 8) = ((n4 / 8 : Nat) : Int) by omega)
                go_upto_region 38 with fail
                refine lift_ab1 AB5.out ?_
                intro w6 hAB6 hT6
                have QB6 := hidR (QB5.out.turned hT6 habq EN.out)
                have AO6 := hidR (AO5.out.turned hT6 AN.out AB5.out)
                have QS6 := hidR (QS5.out.turned hT6 habL hgL)
                have AB6 := hidR hAB6
                clear hT6 hAB6 b0 b1 b2 b3 z0 z1 z2 z3 AB5 QB5 AO5 QS5 SQ5
                go_wp2_with fail
                rw [HCV.out]
                refine (l1Cls_any (n4 / 8) w6).mono ?_
                rintro e w6b ⟨cl, hcl, rfl, hb6⟩
                have QB6b := hidR (QB6.out.bel hb6)
                have AO6b := hidR (AO6.out.bel hb6)
                have QS6b := hidR (QS6.out.bel hb6)
                have AB6b := hidR (show AB w6b ab _ _ _ _ from (hb6.block ab (lt_of_block' AB6.out)).trans AB6.out)
                obtain ⟨⟨b0, b1, b2, b3⟩, z, hab6⟩ := AB6b.out.facts
                have z2 := z 2
                clear z hb6 QB6 AO6 QS6 AB6 HCV
                go_upto_region 39 with fail
                refine lift_abc AB6b.out ?_
                intro wx hABt hTt
                have QBx := hidR (QB6b.out.turned hTt habq EN.out)
                have AOx := hidR (AO6b.out.turned hTt AN.out AB6b.out)
                have QSx := hidR (QS6b.out.turned hTt habL hgL)
                have ABx := hidR hABt
                have SQx := hidR (SQL.out.qs QSx.out (fun k hk => by cases hk))
                clear hTt hABt b0 b1 b2 b3 z2 AB6b QB6b AO6b QS6b
                go_wp2_with fail
                refine (l2DrawArgs_any K m g bq wL.heap.size (.string nm) (.int .i64 sal) (.slice pa L.length pc) (.slice aa Ys.length ac) ka kn kc hgbq hbqL a1 c1 xs1 wx QSx.out.rdr QBx.out SQx.out QSx.out.rest.size hm7 hm5 (by omega)).mono ?_
                rintro e w7 ⟨ao, co, zs, a7, c7, xs7, ys7, rfl, hzs7, hQB7, ⟨hxe7, hTr7, hz3, hx77, hx75⟩, hQ7, hn7⟩
                have AB7 := hidR (show AB w7 ab (.int .i64 1) (.int .i64 0) (.string cl) (.slice none 0 0) from (hQ7.block ab (lt_of_block' ABx.out) (by omega) habq EN.out).trans ABx.out)
                have QB7 := hidR hQB7
                have ZS7 := hidR (owns_base hzs7 (base' := wL.heap.size) (by have := QSx.out.rest.size; omega))
                clear hzs7
                have AO7 := hidR (AOx.out.qs hQ7 hgL hbqL (fun k hk => own_type QBx.out.2.1 hk))
                have QS7 := hidR (QSx.out.trans hQ7 (.inr fun k hk => (QBx.out.2.1.lt k hk).1))
                have EN7 : (Value.slice a7 xs7.length c7).ownBlock ≠ some ab := fun e => by
                  obtain ⟨cc, hcc⟩ := own_type hQB7.2.1 e
                  exact own_far hcc AB7.out (by decide)
                have hs7 := QS7.out.rest.size
                obtain ⟨⟨g0, g1, g2, g3⟩, z, hab7⟩ := AB7.out.facts
                have y3f := z 3
                clear z hQB7 hQ7 hn7 ABx QBx AOx QSx SQx
                go_upto_region 49 with fail
                refine lift_ab3 AB7.out ?_
                intro wt hABt hTt
                have ZSt := hidR (own_same ZS7.out (T := [3]) (Same.kept (fun k hk _ => hTt.block k hk) AB7.out (by decide)) (by decide))
                have QBt := hidR (QB7.out.turned hTt habq EN7)
                have AOt := hidR (AO7.out.turned hTt AN.out AB7.out)
                have QSt := hidR (QS7.out.turned hTt habL hgL)
                have ABt := hidR hABt
                clear hTt hABt g0 g1 g2 g3 y3f AB7 QB7 AO7 QS7 ZS7
                obtain ⟨⟨b0, b1, b2, b3⟩, z, hab⟩ := ABt.out.facts
                clear z
                have hbqt : bq < wt.heap.size := lt_of_block' QBt.out.1
                have cq4 : wt.cell? ⟨bq, 4, none⟩ = some (.slice aa Ys.length ac) := by simp [World.cell?, QBt.out.1]
                have HWt := hidR (fun o => (Below.refl _ _).alloc (Nat.le_refl _) o : ∀ o, Below wt.heap.size wt (wt.alloc o))
                have TYt := hidR (fun o k hk => own_type (AOt.out.bel (HWt.out o)).1 (k := k) hk)
                have hsT := QSt.out.rest.size
                go_wp2_with (first | (at_builtin; refine wpList_append_any (by rfl) (.tmp 157) (.tmp 159) 39 (by rfl) wL.heap.size 53 _ 4 56 Tryz.underlying39 infoAcF (by rfl) (by omega) _ Ys.length _ (by rfl) ((AOt.out.bel (HWt.out _)).1) (some ⟨_, 0, none⟩) 1 1 (by rfl) ([(.int .i64 1), (.int .i64 0), (.string cl), (.slice ao zs.length co)]) (by rfl) (fun e => by cases e) (news_new _ _ _ _ (by simp)) (by intro u hu; simp at hu; rcases hu with rfl | rfl | rfl | rfl; exact rfl; exact rfl; exact rfl; exact rfl) (by unfold maxLen; omega) (by omega) (by simp; omega) ?_; intro a9 c9 w9 ho9 hg9 hl9; have QB9 := hidR (QB.grown (t := 53) (QBt.out.bel (HWt.out _)) hg9.out (TYt.out _) (by decide) (by decide)); have cq9 : w9.cell? ⟨bq, 4, none⟩ = some (.slice aa Ys.length ac) := (by simp [World.cell?, QB9.out.1]); have zq9 : w9.frozen? ⟨bq, 4, none⟩ = false := (by simp [World.frozen?, QB9.out.1])) | fail)
                go_roundw
                case rel =>
                  have hAO9 := AcO.snoc (x := ((⟨1, 0, cl, zs⟩ : Ac), (.slice ao zs.length co))) (AOt.out.bel (HWt.out _)) (show AcP _ _ ((⟨1, 0, cl, zs⟩ : Ac), (.slice ao zs.length co)) from ⟨⟨_, _, rfl⟩, own_bel ZSt.out (HWt.out _)⟩) ho9.out hg9.out
                  refine ⟨j - 1, Ys ++ [((⟨1, 0, cl, zs⟩ : Ac), (.slice ao zs.length co))], ?_, by simp; have := HJ.out; omega, ⟨a9, c9, a7, c7, _, _, ⟨?_, own_set QB9.out.2.1 QB9.out.1 (by decide), QB9.out.2.2⟩, (by have := acts_put (v := (.slice ao zs.length co)) HAT.out (ac_add hcl hz3) hTr7 (hxe7 ▸ hx77) (hxe7 ▸ hx75) (by omega) hm3; rw [← hxe7] at this; exact this), hAO9.same (T := [53, 3]) (Same.kept (fun k hk _ => Below.heap_setCell _ _ _ _ hk) QB9.out.1 (by decide)) (by decide) (by decide)⟩, ((QSt.out.bel (HWt.out _)).grown hg9.out (fun k hk => (AOt.out.1.lt k hk).1) hgL).setQ hgbq⟩
                  · rw [show ((j - 1 : Nat) : Int) = (j : Int) - 1 by omega]
                  · have := heap_setCell_same (i := 4) QB9.out.1 (.slice a9 (Ys.length + 1) c9)
                    simpa using this
                case measure => (simp [intOf]; omega)
            · clear HD8
              rcases h8 with h8 | h8
              all_goals
                have hI := mod8 h8
                clear h8
                go_upto_region 49 with fail
                refine lift_ab2k AB5.out HKK.out ?_
                intro wt z hz hABt hTt
                have QBt := hidR (QB5.out.turned hTt habq EN.out)
                have AOt := hidR (AO5.out.turned hTt AN.out AB5.out)
                have QSt := hidR (QS5.out.turned hTt habL hgL)
                have ABt := hidR hABt
                clear hTt hABt b0 b1 b2 b3 z0 z1 z2 z3 AB5 QB5 AO5 QS5
                obtain ⟨⟨b0, b1, b2, b3⟩, z, hab⟩ := ABt.out.facts
                clear z
                have hbqt : bq < wt.heap.size := lt_of_block' QBt.out.1
                have cq4 : wt.cell? ⟨bq, 4, none⟩ = some (.slice aa Ys.length ac) := by simp [World.cell?, QBt.out.1]
                have HWt := hidR (fun o => (Below.refl _ _).alloc (Nat.le_refl _) o : ∀ o, Below wt.heap.size wt (wt.alloc o))
                have TYt := hidR (fun o k hk => own_type (AOt.out.bel (HWt.out o)).1 (k := k) hk)
                have hsT := QSt.out.rest.size
                go_wp2_with (first | (at_builtin; refine wpList_append_any (by rfl) (.tmp 157) (.tmp 159) 39 (by rfl) wL.heap.size 53 _ 4 56 Tryz.underlying39 infoAcF (by rfl) (by omega) _ Ys.length _ (by rfl) ((AOt.out.bel (HWt.out _)).1) (some ⟨_, 0, none⟩) 1 1 (by rfl) ([(.int .i64 2), (.int .i64 z), (.string ⟨#[]⟩), (.slice none 0 0)]) (by rfl) (fun e => by cases e) (news_new _ _ _ _ (by simp)) (by intro u hu; simp at hu; rcases hu with rfl | rfl | rfl | rfl; exact rfl; exact rfl; exact rfl; exact rfl) (by unfold maxLen; omega) (by omega) (by simp; omega) ?_; intro a9 c9 w9 ho9 hg9 hl9; have QB9 := hidR (QB.grown (t := 53) (QBt.out.bel (HWt.out _)) hg9.out (TYt.out _) (by decide) (by decide)); have cq9 : w9.cell? ⟨bq, 4, none⟩ = some (.slice aa Ys.length ac) := (by simp [World.cell?, QB9.out.1]); have zq9 : w9.frozen? ⟨bq, 4, none⟩ = false := (by simp [World.frozen?, QB9.out.1])) | fail)
                go_roundw
                case rel =>
                  have hAO9 := AcO.snoc (x := ((⟨2, z, ⟨#[]⟩, []⟩ : Ac), (.slice none 0 0))) (AOt.out.bel (HWt.out _)) (show AcP _ _ ((⟨2, z, ⟨#[]⟩, []⟩ : Ac), (.slice none 0 0)) from ⟨⟨_, _, rfl⟩, own_bel (World.ownsRow_nil _ _ _ _) (HWt.out _)⟩) ho9.out hg9.out
                  refine ⟨j - 1, Ys ++ [((⟨2, z, ⟨#[]⟩, []⟩ : Ac), (.slice none 0 0))], ?_, by simp; have := HJ.out; omega, ⟨a9, c9, a1, c1, _, _, ⟨?_, own_set QB9.out.2.1 QB9.out.1 (by decide), QB9.out.2.2⟩, (by have := acts_put (v := (.slice none 0 0)) (m' := m) HAT.out (ac_drop hz hp3) (ys := []) rfl (by simpa using hm7) (by simpa using hm5) (by omega) hm3; simpa using this), hAO9.same (T := [53, 3]) (Same.kept (fun k hk _ => Below.heap_setCell _ _ _ _ hk) QB9.out.1 (by decide)) (by decide) (by decide)⟩, ((QSt.out.bel (HWt.out _)).grown hg9.out (fun k hk => (AOt.out.1.lt k hk).1) hgL).setQ hgbq⟩
                  · rw [show ((j - 1 : Nat) : Int) = (j : Int) - 1 by omega]
                  · have := heap_setCell_same (i := 4) QB9.out.1 (.slice a9 (Ys.length + 1) c9)
                    simpa using this
                case measure => (simp [intOf]; omega)
            · clear HD8
              rcases h8 with h8 | h8
              all_goals
                have hI := mod8 h8
                clear h8
                go_upto_region 48 with fail
                refine lift_ab2k AB5.out HKK.out ?_
                intro wx z hz hABt hTt
                have QBx := hidR (QB5.out.turned hTt habq EN.out)
                have AOx := hidR (AO5.out.turned hTt AN.out AB5.out)
                have QSx := hidR (QS5.out.turned hTt habL hgL)
                have ABx := hidR hABt
                have SQx := hidR (SQL.out.qs QSx.out (fun k hk => by cases hk))
                clear hTt hABt b0 b1 b2 b3 z0 z1 z2 z3 AB5 QB5 AO5 QS5 SQ5
                go_wp2_with fail
                refine (l2DrawArgs_any K m g bq wL.heap.size (.string nm) (.int .i64 sal) (.slice pa L.length pc) (.slice aa Ys.length ac) ka kn kc hgbq hbqL a1 c1 xs1 wx QSx.out.rdr QBx.out SQx.out QSx.out.rest.size hm7 hm5 (by omega)).mono ?_
                rintro e w7 ⟨ao, co, zs, a7, c7, xs7, ys7, rfl, hzs7, hQB7, ⟨hxe7, hTr7, hz3, hx77, hx75⟩, hQ7, hn7⟩
                have AB7 := hidR (show AB w7 ab (.int .i64 3) (.int .i64 z) (.string ⟨#[]⟩) (.slice none 0 0) from (hQ7.block ab (lt_of_block' ABx.out) (by omega) habq EN.out).trans ABx.out)
                have QB7 := hidR hQB7
                have ZS7 := hidR (owns_base hzs7 (base' := wL.heap.size) (by have := QSx.out.rest.size; omega))
                clear hzs7
                have AO7 := hidR (AOx.out.qs hQ7 hgL hbqL (fun k hk => own_type QBx.out.2.1 hk))
                have QS7 := hidR (QSx.out.trans hQ7 (.inr fun k hk => (QBx.out.2.1.lt k hk).1))
                have EN7 : (Value.slice a7 xs7.length c7).ownBlock ≠ some ab := fun e => by
                  obtain ⟨cc, hcc⟩ := own_type hQB7.2.1 e
                  exact own_far hcc AB7.out (by decide)
                have hs7 := QS7.out.rest.size
                obtain ⟨⟨g0, g1, g2, g3⟩, z, hab7⟩ := AB7.out.facts
                have y3f := z 3
                clear z hQB7 hQ7 hn7 ABx QBx AOx QSx SQx
                go_upto_region 49 with fail
                refine lift_ab3 AB7.out ?_
                intro wt hABt hTt
                have ZSt := hidR (own_same ZS7.out (T := [3]) (Same.kept (fun k hk _ => hTt.block k hk) AB7.out (by decide)) (by decide))
                have QBt := hidR (QB7.out.turned hTt habq EN7)
                have AOt := hidR (AO7.out.turned hTt AN.out AB7.out)
                have QSt := hidR (QS7.out.turned hTt habL hgL)
                have ABt := hidR hABt
                clear hTt hABt g0 g1 g2 g3 y3f AB7 QB7 AO7 QS7 ZS7
                obtain ⟨⟨b0, b1, b2, b3⟩, z, hab⟩ := ABt.out.facts
                clear z
                have hbqt : bq < wt.heap.size := lt_of_block' QBt.out.1
                have cq4 : wt.cell? ⟨bq, 4, none⟩ = some (.slice aa Ys.length ac) := by simp [World.cell?, QBt.out.1]
                have HWt := hidR (fun o => (Below.refl _ _).alloc (Nat.le_refl _) o : ∀ o, Below wt.heap.size wt (wt.alloc o))
                have TYt := hidR (fun o k hk => own_type (AOt.out.bel (HWt.out o)).1 (k := k) hk)
                have hsT := QSt.out.rest.size
                go_wp2_with (first | (at_builtin; refine wpList_append_any (by rfl) (.tmp 157) (.tmp 159) 39 (by rfl) wL.heap.size 53 _ 4 56 Tryz.underlying39 infoAcF (by rfl) (by omega) _ Ys.length _ (by rfl) ((AOt.out.bel (HWt.out _)).1) (some ⟨_, 0, none⟩) 1 1 (by rfl) ([(.int .i64 3), (.int .i64 z), (.string ⟨#[]⟩), (.slice ao zs.length co)]) (by rfl) (fun e => by cases e) (news_new _ _ _ _ (by simp)) (by intro u hu; simp at hu; rcases hu with rfl | rfl | rfl | rfl; exact rfl; exact rfl; exact rfl; exact rfl) (by unfold maxLen; omega) (by omega) (by simp; omega) ?_; intro a9 c9 w9 ho9 hg9 hl9; have QB9 := hidR (QB.grown (t := 53) (QBt.out.bel (HWt.out _)) hg9.out (TYt.out _) (by decide) (by decide)); have cq9 : w9.cell? ⟨bq, 4, none⟩ = some (.slice aa Ys.length ac) := (by simp [World.cell?, QB9.out.1]); have zq9 : w9.frozen? ⟨bq, 4, none⟩ = false := (by simp [World.frozen?, QB9.out.1])) | fail)
                go_roundw
                case rel =>
                  have hAO9 := AcO.snoc (x := ((⟨3, z, ⟨#[]⟩, zs⟩ : Ac), (.slice ao zs.length co))) (AOt.out.bel (HWt.out _)) (show AcP _ _ ((⟨3, z, ⟨#[]⟩, zs⟩ : Ac), (.slice ao zs.length co)) from ⟨⟨_, _, rfl⟩, own_bel ZSt.out (HWt.out _)⟩) ho9.out hg9.out
                  refine ⟨j - 1, Ys ++ [((⟨3, z, ⟨#[]⟩, zs⟩ : Ac), (.slice ao zs.length co))], ?_, by simp; have := HJ.out; omega, ⟨a9, c9, a7, c7, _, _, ⟨?_, own_set QB9.out.2.1 QB9.out.1 (by decide), QB9.out.2.2⟩, (by have := acts_put (v := (.slice ao zs.length co)) HAT.out (ac_mod hz hp3 hz3) hTr7 (hxe7 ▸ hx77) (hxe7 ▸ hx75) (by omega) hm3; rw [← hxe7] at this; exact this), hAO9.same (T := [53, 3]) (Same.kept (fun k hk _ => Below.heap_setCell _ _ _ _ hk) QB9.out.1 (by decide)) (by decide) (by decide)⟩, ((QSt.out.bel (HWt.out _)).grown hg9.out (fun k hk => (AOt.out.1.lt k hk).1) hgL).setQ hgbq⟩
                  · rw [show ((j - 1 : Nat) : Int) = (j : Int) - 1 by omega]
                  · have := heap_setCell_same (i := 4) QB9.out.1 (.slice a9 (Ys.length + 1) c9)
                    simpa using this
                case measure => (simp [intOf]; omega)
            · clear HD8
              have hI := mod8 h8
              clear h8
              go_upto_region 49 with fail
              refine lift_ab1 AB5.out ?_
              intro wt hABt hTt
              have QBt := hidR (QB5.out.turned hTt habq EN.out)
              have AOt := hidR (AO5.out.turned hTt AN.out AB5.out)
              have QSt := hidR (QS5.out.turned hTt habL hgL)
              have ABt := hidR hABt
              clear hTt hABt b0 b1 b2 b3 z0 z1 z2 z3 AB5 QB5 AO5 QS5
              obtain ⟨⟨b0, b1, b2, b3⟩, z, hab⟩ := ABt.out.facts
              clear z
              have hbqt : bq < wt.heap.size := lt_of_block' QBt.out.1
              have cq4 : wt.cell? ⟨bq, 4, none⟩ = some (.slice aa Ys.length ac) := by simp [World.cell?, QBt.out.1]
              have HWt := hidR (fun o => (Below.refl _ _).alloc (Nat.le_refl _) o : ∀ o, Below wt.heap.size wt (wt.alloc o))
              have TYt := hidR (fun o k hk => own_type (AOt.out.bel (HWt.out o)).1 (k := k) hk)
              have hsT := QSt.out.rest.size
              go_wp2_with (first | (at_builtin; refine wpList_append_any (by rfl) (.tmp 157) (.tmp 159) 39 (by rfl) wL.heap.size 53 _ 4 56 Tryz.underlying39 infoAcF (by rfl) (by omega) _ Ys.length _ (by rfl) ((AOt.out.bel (HWt.out _)).1) (some ⟨_, 0, none⟩) 1 1 (by rfl) ([(.int .i64 4), (.int .i64 0), (.string ⟨#[]⟩), (.slice none 0 0)]) (by rfl) (fun e => by cases e) (news_new _ _ _ _ (by simp)) (by intro u hu; simp at hu; rcases hu with rfl | rfl | rfl | rfl; exact rfl; exact rfl; exact rfl; exact rfl) (by unfold maxLen; omega) (by omega) (by simp; omega) ?_; intro a9 c9 w9 ho9 hg9 hl9; have QB9 := hidR (QB.grown (t := 53) (QBt.out.bel (HWt.out _)) hg9.out (TYt.out _) (by decide) (by decide)); have cq9 : w9.cell? ⟨bq, 4, none⟩ = some (.slice aa Ys.length ac) := (by simp [World.cell?, QB9.out.1]); have zq9 : w9.frozen? ⟨bq, 4, none⟩ = false := (by simp [World.frozen?, QB9.out.1])) | fail)
              go_roundw
              case rel =>
                have hAO9 := AcO.snoc (x := ((⟨4, 0, ⟨#[]⟩, []⟩ : Ac), (.slice none 0 0))) (AOt.out.bel (HWt.out _)) (show AcP _ _ ((⟨4, 0, ⟨#[]⟩, []⟩ : Ac), (.slice none 0 0)) from ⟨⟨_, _, rfl⟩, own_bel (World.ownsRow_nil _ _ _ _) (HWt.out _)⟩) ho9.out hg9.out
                refine ⟨j - 1, Ys ++ [((⟨4, 0, ⟨#[]⟩, []⟩ : Ac), (.slice none 0 0))], ?_, by simp; have := HJ.out; omega, ⟨a9, c9, a1, c1, _, _, ⟨?_, own_set QB9.out.2.1 QB9.out.1 (by decide), QB9.out.2.2⟩, (by have := acts_put (v := (.slice none 0 0)) (m' := m) HAT.out (ac_halt pos) (ys := []) rfl (by simpa using hm7) (by simpa using hm5) (by omega) hm3; simpa using this), hAO9.same (T := [53, 3]) (Same.kept (fun k hk _ => Below.heap_setCell _ _ _ _ hk) QB9.out.1 (by decide)) (by decide) (by decide)⟩, ((QSt.out.bel (HWt.out _)).grown hg9.out (fun k hk => (AOt.out.1.lt k hk).1) hgL).setQ hgbq⟩
                · rw [show ((j - 1 : Nat) : Int) = (j : Int) - 1 by omega]
                · have := heap_setCell_same (i := 4) QB9.out.1 (.slice a9 (Ys.length + 1) c9)
                  simpa using this
              case measure => (simp [intOf]; omega)
end Go.Proofs.YtgkoiojelckblaaGreatDoor

namespace Go.Proofs.YtgkoiojelckblaaGreatDoor
open Go.RowKit

/-- What is asked of rules that were drawn. -/
def MOk (M : List RuX) : Prop := ∀ i x, M[i]? = some x → DRu i x.ru ∧ -9223372036854775808 ≤ x.sal ∧ x.sal ≤ 9223372036854775807
theorem MOk.snoc {M : List RuX} {x : RuX} (h : MOk M) (hx : DRu M.length x.ru) (hs : -9223372036854775808 ≤ x.sal ∧ x.sal ≤ 9223372036854775807) : MOk (M ++ [x]) := by
  intro i y hy
  by_cases hi : i < M.length
  · rw [List.getElem?_append_left hi] at hy
    exact h i y hy
  · have hil := (List.getElem?_eq_some_iff.1 hy).1
    simp at hil
    obtain rfl : i = M.length := by omega
    simp at hy
    subst hy
    exact ⟨hx, hs⟩
theorem RuP.slices {w : World} {base : Nat} {x : RuX} (h : RuP w base x) : (∃ a n c, x.pv = .slice a n c) ∧ (∃ a n c, x.ev = .slice a n c) ∧ ∃ a n c, x.av = .slice a n c := by
  obtain ⟨⟨a, c, e, _⟩, ⟨a2, c2, e2, _⟩, a3, c3, e3, _⟩ := h
  exact ⟨⟨a, _, c, e⟩, ⟨a2, _, c2, e2⟩, a3, _, c3, e3⟩
end Go.Proofs.YtgkoiojelckblaaGreatDoor
