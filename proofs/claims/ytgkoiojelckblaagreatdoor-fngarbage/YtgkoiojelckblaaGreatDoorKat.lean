/-
  OUR OWN TEXT. Rn1, Dw2, one behind the other.
-/
import Derived.Test.YtgkoiojelckblaaGreatDoorMo0m
import Derived.Test.YtgkoiojelckblaaGreatDoorKah
import Derived.Deep.RegionHeld3
import Derived.Test.YtgkoiojelckblaaGreatDoorKaf
import Derived.Test.YtgkoiojelckblaaGreatDoorDr0m
namespace Go.Proofs.YtgkoiojelckblaaGreatDoor
open Go.RowKit
attribute [local go_sem ↓] Go.wp_at_zero Go.wp_at_succ

theorem hidR {p : Prop} (h : p) : Hid p := h
/-- The reader in its box g: some bytes, and a place among them or behind them. -/
def Rdr (w : World) (g : Nat) : Prop := ∃ (a : Option Addr) (n c i : Nat), w.heap[g]? = some (.cells #[.slice a n c, .int .i64 (i : Int)] 58 (0, 0)) ∧ i ≤ n ∧ n ≤ 1048576 ∧
  ∀ j, j < n → ∃ (b o : Nat) (u : Nat), a = some ⟨b, o, none⟩ ∧ b < g ∧ u < 256 ∧ w.cell? ⟨b, o + j, none⟩ = some (.int .u8 (u : Int))
theorem Rdr.bel {w w' : World} {g : Nat} (h : Rdr w g) (hb : Below w.heap.size w w') : Rdr w' g := by
  obtain ⟨a, n, c, i, h1, h2, h3, h4⟩ := h
  refine ⟨a, n, c, i, (hb.block g (lt_of_block' h1)).trans h1, h2, h3, fun j hj => ?_⟩
  obtain ⟨b, o, u, e1, e2, e3, e4⟩ := h4 j hj
  exact ⟨b, o, u, e1, e2, e3, cell_below hb e4⟩
theorem Rdr.lt {w : World} {g : Nat} (h : Rdr w g) : g < w.heap.size := by
  obtain ⟨a, n, c, i, h1, _⟩ := h
  exact lt_of_block' h1
theorem Rdr.old {w w' : World} {g : Nat} (h : Rdr w g) (hb : Below (g + 1) w w') : Rdr w' g := by
  obtain ⟨a, n, c, i, h1, h2, h3, h4⟩ := h
  refine ⟨a, n, c, i, (hb.block g (by omega)).trans h1, h2, h3, fun j hj => ?_⟩
  obtain ⟨b, o, u, e1, e2, e3, e4⟩ := h4 j hj
  refine ⟨b, o, u, e1, e2, e3, ?_⟩
  rw [← e4]
  exact World.cell?_of_block (w := w) (hb.block b (by omega))
/-- What a call that reads leaves: only the reader's box was written. -/
def Rs (g : Nat) (w w' : World) : Prop := MkO (some g) w w' ∧ Rdr w' g
theorem Rs.trans {g : Nat} {u v w : World} (h : Rs g u v) (k : Rs g v w) : Rs g u w := ⟨h.1.trans k.1, k.2⟩
theorem Rs.bel {g : Nat} {u v w : World} (h : Rs g u v) (hb : Below v.heap.size v w) : Rs g u w := ⟨h.1.trans (MkO.of_below hb), h.2.bel hb⟩
theorem Rs.refl {g : Nat} {w : World} (h : Rdr w g) : Rs g w w := ⟨MkO.refl _ _, h⟩
theorem Rs.of {g : Nat} {w w' : World} (h : Rdr w g) (hb : Below w.heap.size w w') : Rs g w w' := (Rs.refl h).bel hb

set_option maxHeartbeats 1600000 in
theorem next_any (g : Nat) (w : World) (h : Rdr w g) : Calls Tryz.prog 26 #[.pointer (some ⟨g, 0, none⟩)] w fun e w' => ∃ c : Nat, c < 256 ∧ e = .returned (.int .i64 (c : Int)) ∧ Rs g w w' := by
  have H := hidR h
  obtain ⟨a, n, c, i, h1, h2, h3, h4⟩ := h
  have c0 : w.cell? ⟨g, 0, none⟩ = some (.slice a n c) := by simp [World.cell?, h1]
  have c1 : w.cell? ⟨g, 1, none⟩ = some (.int .i64 (i : Int)) := by simp [World.cell?, h1]
  have z1 : w.frozen? ⟨g, 1, none⟩ = false := by simp [World.frozen?, h1]
  have hlt : g < w.heap.size := lt_of_block' h1
  have H1 := hidR h1
  have H4 := hidR h4
  clear h1 h4
  by_cases hin : i < n
  · obtain ⟨b, o, u, rfl, hbg, hu, hcu⟩ := H4.out i hin
    have hI : ((i : Nat) : Int) < ((n : Nat) : Int) := by omega
    have hI0 : (0 : Int) ≤ (i : Int) := by omega
    go_enter Tryz.func26, Tryz.ntmps26
    go_wp2
    go_region
    go_wp2
    go_region
    go_wp2
    go_ret
    refine ⟨u, hu, rfl, ?_, ?_⟩
    · exact (MkO.set _).trans (MkO.of_below (Below.refl _ _).drew.drew)
    · refine ⟨some ⟨b, o, none⟩, n, c, i + 1, ?_, by omega, h3, fun j hj => ?_⟩
      · have := heap_setCell_same (w := w) (g := g) (i := 1) H1.out (.int .i64 ((i : Int) + 1))
        exact this
      · obtain ⟨b', o', u', e1, e2, e3, e4⟩ := H4.out j hj
        refine ⟨b', o', u', e1, e2, e3, ?_⟩
        rw [← e4]
        exact World.cell?_of_block (w := w) (Below.heap_setCell _ _ _ _ (Nat.ne_of_lt e2))
  · go_enter Tryz.func26, Tryz.ntmps26
    go_wp2
    go_region
    go_wp2
    go_ret
    exact ⟨0, by omega, rfl, Rs.of H.out (Below.refl _ _).drew⟩
end Go.Proofs.YtgkoiojelckblaaGreatDoor

namespace Go.Proofs.YtgkoiojelckblaaGreatDoor
open Go.RowKit
attribute [local go_sem ↓] Go.wp_at_zero Go.wp_at_succ

theorem block_rs {g b : Nat} {w w' : World} {o : Obj} (h : Rs g w w') (hb : w.heap[b]? = some o) (hne : b ≠ g) : w'.heap[b]? = some o :=
  (h.1.block b (lt_of_block' hb) (fun e => hne (by injection e with e; exact e.symm))).trans hb
theorem cell_rs {g b o : Nat} {w w' : World} {v : Value} (h : Rs g w w') (hb : w.cell? ⟨b, o, none⟩ = some v) (hne : b ≠ g) : w'.cell? ⟨b, o, none⟩ = some v := by
  rw [← hb]
  exact World.cell?_of_block (w := w) (h.1.block b (World.block_lt_of_cell? w ⟨b, o, none⟩ hb) (fun e => hne (by injection e with e; exact e.symm)))

/-- A class that was drawn, a name that was drawn. -/
def GCl (s : ByteArray) : Prop := s.size ≤ 20 ∧ gCls s = true
def GNm (s : ByteArray) : Prop := s.size ≤ 20 ∧ gSym s.data.toList = true
set_option maxHeartbeats 800000 in
theorem l1Cls_any (c : Nat) (w : World) : Calls Tryz.prog 55 #[.int .i64 (c : Int)] w fun e w' => ∃ s : ByteArray, GCl s ∧ e = .returned (.string s) ∧ Below w.heap.size w w' := by
  have h3 : c % 3 = 0 ∨ c % 3 = 1 ∨ c % 3 = 2 := by omega
  rcases h3 with h | h | h
  all_goals
    go_enter Tryz.func55, Tryz.ntmps55
    go_wp2
    go_ret
    exact ⟨_, ⟨by decide, by decide⟩, rfl, (Below.refl _ _).alloc (Nat.le_refl _) _⟩
set_option maxHeartbeats 800000 in
theorem l2Name_any (c : Nat) (w : World) : Calls Tryz.prog 101 #[.int .i64 (c : Int)] w fun e w' => ∃ s : ByteArray, GNm s ∧ e = .returned (.string s) ∧ Below w.heap.size w w' := by
  have h3 : c % 3 = 0 ∨ c % 3 = 1 ∨ c % 3 = 2 := by omega
  rcases h3 with h | h | h
  all_goals
    go_enter Tryz.func101, Tryz.ntmps101
    go_wp2
    go_ret
    exact ⟨_, ⟨by decide, by decide⟩, rfl, (Below.refl _ _).alloc (Nat.le_refl _) _⟩
/-- A value as it is handed over. -/
def vV (v : V) : Value := .agg #[.int .i64 v.kind, .int .i64 v.num, .string v.sym]
theorem l1Sym_any (s : ByteArray) (w : World) : Calls Tryz.prog 156 #[.string s] w fun e w' => e = .returned (vV (1, 0, s)) ∧ Below w.heap.size w w' := by
  go_enter Tryz.func156, Tryz.ntmps156
  go_wp2
  exact bodyPost_ret (v := vV (1, 0, s)) (by simp [results, Tryz.results156, go_sem, vV, V.kind, V.num, V.sym]) rfl ⟨rfl, (Below.refl _ _).alloc (Nat.le_refl _) _⟩
theorem l1NumR_any (n : Int) (w : World) : Calls Tryz.prog 157 #[.int .i64 n] w fun e w' => e = .returned (vV (0, n, ⟨#[]⟩)) ∧ Below w.heap.size w w' := by
  go_enter Tryz.func157, Tryz.ntmps157
  go_wp2
  exact bodyPost_ret (v := vV (0, n, ⟨#[]⟩)) (by simp [results, Tryz.results157, go_sem, vV, V.kind, V.num, V.sym]) rfl ⟨rfl, (Below.refl _ _).alloc (Nat.le_refl _) _⟩
/-- What is asked of a value that was drawn. -/
def VSm (v : V) : Prop := v.sym.size ≤ 20 ∧ (-9223372036854775808 ≤ v.kind ∧ v.kind ≤ 9223372036854775807) ∧ -9223372036854775808 ≤ v.num ∧ v.num ≤ 9223372036854775807 ∧ gVal v = true
theorem vsm_sym (s : ByteArray) (h : s.size ≤ 20) (hg : gVal (1, 0, s) = true) : VSm (1, 0, s) := ⟨h, ⟨show (_ : Int) ≤ 1 by decide, show (1 : Int) ≤ _ by decide⟩, show (_ : Int) ≤ 0 by decide, show (0 : Int) ≤ _ by decide, hg⟩
theorem vsm_num (n : Int) (h1 : -9223372036854775808 ≤ n) (h2 : n ≤ 9223372036854775807) : VSm (0, n, ⟨#[]⟩) := ⟨Nat.zero_le 20, ⟨show (_ : Int) ≤ 0 by decide, show (0 : Int) ≤ _ by decide⟩, h1, h2, gVal_num n⟩
theorem vsm_zero : VSm (0, 0, ⟨#[]⟩) := vsm_num 0 (by decide) (by decide)
theorem box3 {w : World} {b : Nat} {t : TypeId} {v : V} (h : w.heap[b]? = some (.cells (V.cells v).toArray t (0, 0))) : w.cell? ⟨b, 0, none⟩ = some (.int .i64 v.kind) ∧ w.cell? ⟨b, 1, none⟩ = some (.int .i64 v.num) ∧ w.cell? ⟨b, 2, none⟩ = some (.string v.sym) := by
  refine ⟨?_, ?_, ?_⟩ <;> simp [World.cell?, h, V.cells]
theorem infoVS : (Tryz.prog.info? 47).map (·.size) = some 3 := by kernel_rfl
theorem V.cells_one (v : V) : ∀ u ∈ V.cells v, u.oneCell' = true := by
  intro u hu
  simp [V.cells] at hu
  rcases hu with rfl | rfl | rfl <;> rfl
/-- A whole box was written: what that leaves of a reader. -/
theorem Rs.turned {g b : Nat} {u v w : World} (h : Rs g u v) (ht : Turned v w b) (hb : u.heap.size ≤ b) (hg : g < u.heap.size) : Rs g u w := by
  refine ⟨⟨h.1.rest.trans (ht.below (Nat.zero_le _)), fun k hk hne => (ht.block k (by omega)).trans (h.1.block k hk hne)⟩, ?_⟩
  exact h.2.old (ht.below (by omega))
theorem abs3 {w : World} {b : Nat} {t : TypeId} {v : V} (h : Hid (w.heap[b]? = some (.cells (V.cells v).toArray t (0, 0)))) (hv : VSm v) : ∃ v : V, VSm v ∧ w.cell? ⟨b, 0, none⟩ = some (.int .i64 v.kind) ∧ w.cell? ⟨b, 1, none⟩ = some (.int .i64 v.num) ∧ w.cell? ⟨b, 2, none⟩ = some (.string v.sym) := ⟨v, hv, box3 h.out⟩
set_option maxRecDepth 100000 in
set_option maxHeartbeats 1600000 in
theorem l1Val_any (g : Nat) (w : World) (h : Rdr w g) : Calls Tryz.prog 100 #[.pointer (some ⟨g, 0, none⟩)] w fun e w' => ∃ v : V, VSm v ∧ e = .returned (vV v) ∧ Rs g w w' := by
  have H := hidR h
  have hlt := h.lt
  clear h
  have HB := hidR (fun o => (H.out.bel ((Below.refl _ _).alloc (Nat.le_refl _) o)))
  go_enter Tryz.func100, Tryz.ntmps100
  go_wp2_with fail
  refine (next_any g _ (HB.out _)).mono ?_
  rintro e w1 ⟨c, hc, rfl, hr⟩
  have hbx := hidR (block_rs hr (heap_alloc_new _ _) (by omega))
  have hR := hidR (((Rs.of H.out ((Below.refl _ _).alloc (Nat.le_refl _) _)).trans hr))
  have hs1 : w.heap.size < w1.heap.size := lt_of_block' hbx.out
  clear hr HB
  have HA := hidR (fun o => (Below.refl _ _).alloc (Nat.le_refl _) o : ∀ o, Below w1.heap.size w1 (w1.alloc o))
  by_cases h3 : c % 3 = 0
  · have hk : c / 3 % 3 = 0 ∨ c / 3 % 3 = 1 ∨ c / 3 % 3 = 2 := by omega
    rcases hk with hk | hk | hk
    all_goals
      go_wp2_with fail
      refine (l1Sym_any _ _).mono ?_
      rintro e w2 ⟨rfl, hb2⟩
      have hB2 := hidR ((HA.out _).trans (hb2.mono (HA.out _).size))
      have hs2 := hB2.out.size
      clear hb2
      go_wp2_with (first | (refine wpList_store_blk (by rfl) 47 (.tmp 2) (.tmp 16) (by rfl) w.heap.size (V.cells (1, 0, _)) (by rfl) (by rfl) _ 47 ((hB2.out.block _ hs1).trans hbx.out) (by rfl) infoVS (V.cells_one _) ?_; intro w3 hk3 ht3; obtain ⟨v, hv, f0, f1, f2⟩ := abs3 hk3 (vsm_sym _ (by first | decide | exact Nat.zero_le 20) (by decide)); clear hk3) | fail)
      exact bodyPost_ret (v := vV v) (by simp [results, Tryz.results100, go_sem, f0, f1, f2, vV]) rfl ⟨v, hv, rfl, (hR.out.bel hB2.out).turned ht3.out (Nat.le_refl _) hlt⟩
  have h3' : ¬ (c : Int) % 3 = 0 := by omega
  by_cases h250 : 250 ≤ c
  · have h250' : (250 : Int) ≤ (c : Int) := by omega
    have hk : c % 4 = 1 ∨ c % 4 = 2 ∨ c % 4 = 3 := by omega
    rcases hk with hk | hk | hk
    all_goals
      go_wp2_with fail
      refine (l1NumR_any _ _).mono ?_
      rintro e w2 ⟨rfl, hb2⟩
      have hB2 := hidR ((HA.out _).trans (hb2.mono (HA.out _).size))
      have hs2 := hB2.out.size
      clear hb2
      go_wp2_with (first | (refine wpList_store_blk (by rfl) 47 (.tmp 2) (.tmp 25) (by rfl) w.heap.size (V.cells (0, _, _)) (by rfl) (by rfl) _ 47 ((hB2.out.block _ hs1).trans hbx.out) (by rfl) infoVS (V.cells_one _) ?_; intro w3 hk3 ht3; obtain ⟨v, hv, f0, f1, f2⟩ := abs3 hk3 (vsm_num _ (by first | decide | omega) (by first | decide | omega)); clear hk3) | fail)
      exact bodyPost_ret (v := vV v) (by simp [results, Tryz.results100, go_sem, f0, f1, f2, vV]) rfl ⟨v, hv, rfl, (hR.out.bel hB2.out).turned ht3.out (Nat.le_refl _) hlt⟩
  · have h250' : ¬ (250 : Int) ≤ (c : Int) := by omega
    go_wp2_with fail
    refine (l1NumR_any _ _).mono ?_
    rintro e w2 ⟨rfl, hb2⟩
    · have hB2 := hidR hb2
      have hs2 := hB2.out.size
      clear hb2
      go_wp2_with (first | (refine wpList_store_blk (by rfl) 47 (.tmp 2) (.tmp 30) (by rfl) w.heap.size (V.cells (0, _, _)) (by rfl) (by rfl) _ 47 ((hB2.out.block _ hs1).trans hbx.out) (by rfl) infoVS (V.cells_one _) ?_; intro w3 hk3 ht3; obtain ⟨v, hv, f0, f1, f2⟩ := abs3 hk3 (vsm_num _ (by first | decide | omega) (by first | decide | omega)); clear hk3) | fail)
      exact bodyPost_ret (v := vV v) (by simp [results, Tryz.results100, go_sem, f0, f1, f2, vV]) rfl ⟨v, hv, rfl, (hR.out.bel hB2.out).turned ht3.out (Nat.le_refl _) hlt⟩
end Go.Proofs.YtgkoiojelckblaaGreatDoor
