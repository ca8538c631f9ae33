/-
  OUR OWN TEXT. Rn12, RdB, one behind the other.
-/
import Derived.Test.YtgamdkokmkagaaaRn10m
import Derived.Test.YtgamdkokmkagaaaRn11m
import Derived.Test.YtgamdkokmkagaaaRdGm
namespace Go.Proofs.Ytgamdkokmkagaaa
open Go.RowKit
attribute [local go_sem ↓] Go.wp_at_zero Go.wp_at_succ

/-- Bytes that came in. -/
def ByA (w : World) (a : Option Addr) (n : Nat) : Prop := ∀ j, j < n → ∃ (b o : Nat) (u : Nat), a = some ⟨b, o, none⟩ ∧ b < w.heap.size ∧ u < 256 ∧ w.cell? ⟨b, o + j, none⟩ = some (.int .u8 (u : Int))
theorem ByA.below {w w' : World} {a : Option Addr} {n : Nat} (h : ByA w a n) (hb : Below w.heap.size w w') : ByA w' a n := fun j hj => by
  obtain ⟨b, o, u, e1, e2, e3, e4⟩ := h j hj
  exact ⟨b, o, u, e1, Nat.lt_of_lt_of_le e2 hb.size, e3, cell_below hb e4⟩
theorem ByA.rdr {w : World} {a : Option Addr} {n c g : Nat} (h : ByA w a n) (hn : n ≤ 1048576) (hg : w.heap.size = g) : Rdr (w.alloc (.cells #[.slice a n c, .int .i64 0] 109)) g := by
  subst hg
  refine ⟨a, n, c, 0, heap_alloc_new _ _, Nat.zero_le _, hn, fun j hj => ?_⟩
  obtain ⟨b, o, u, e1, e2, e3, e4⟩ := h j hj
  exact ⟨b, o, u, e1, e2, e3, cell_below ((Below.refl _ _).alloc (Nat.le_refl _) _) e4⟩
theorem OO.lower {w : World} {base base' : Nat} {a : Option Addr} {c : Nat} {N : List OpX} (h : OO w base a c N) (hb : base' ≤ base) : OO w base' a c N := ⟨owns_base h.1 hb, fun x hx => ⟨(h.2 x hx).1, owns_base (h.2 x hx).2.1 hb, (h.2 x hx).2.2⟩⟩

set_option maxHeartbeats 800000 in
theorem pick_any (a : Option Addr) (n c i : Nat) (i' : Int) (w : World) (h : ByA w a n) (hi : i ≤ 1) (he : i' = (i : Int)) : Calls Try.prog 11 #[.slice a n c, .int .i64 i'] w fun e w' => ∃ u : Nat, u < 256 ∧ e = .returned (.int .i64 (u : Int)) ∧ w' = w := by
  subst he
  by_cases hn : n = 0
  · subst hn
    clear h
    go_enter Try.func11, Try.ntmps11
    go_wp2_with fail
    go_ret
    exact ⟨0, by omega, rfl, rfl⟩
  · obtain ⟨k, hk⟩ : ∃ k, k = i % n := ⟨_, rfl⟩
    have hkn : k < n := by rw [hk]; exact Nat.mod_lt _ (by omega)
    obtain ⟨b, o, u, rfl, hb, hu, hc⟩ := h k hkn
    have hke : (i : Int) % (n : Int) = (k : Int) := by rw [hk]; push_cast; rfl
    have hket : (i : Int).tmod (n : Int) = (k : Int) := by rw [Int.tmod_eq_emod_of_nonneg (by omega)]; exact hke
    have hkI : (k : Int) < (n : Int) := by omega
    have hk0 : (0 : Int) ≤ (k : Int) := by omega
    have hnn : ¬ (n : Int) = 0 := by omega
    clear hk h
    go_enter Try.func11, Try.ntmps11
    go_wp2_with fail
    go_ret
    exact ⟨u, hu, rfl, rfl⟩

theorem MOset4 {v : World} {base d : Nat} {a : Option Addr} {c : Nat} {M : List RuX} {nx cp : Int} {sg : Bool} {x0 x1 x2 x3 : Value} (h : RO v base a c M) (hd : SB v d nx cp sg) : RO ((((v.setCell ⟨d, 0, none⟩ x0).setCell ⟨d, 1, none⟩ x1).setCell ⟨d, 2, none⟩ x2).setCell ⟨d, 3, none⟩ x3) base a c M := by
  have e1 : ∀ (u : World) (j k : Nat) (x : Value), k ≠ d → (u.setCell ⟨d, j, none⟩ x).heap[k]? = u.heap[k]? := fun u j k x h => Below.heap_setCell u ⟨d, j, none⟩ x k h
  refine RO.kept (t := 26) h (fun k hk _ => ?_) hd (by decide) (by decide) (by decide)
  rw [e1 _ _ _ _ hk, e1 _ _ _ _ hk, e1 _ _ _ _ hk, e1 _ _ _ _ hk]
set_option maxRecDepth 100000 in
set_option maxHeartbeats 1600000 in
theorem DrawWorld0_any (a : Option Addr) (n c : Nat) (w : World) (h : ByA w a n) (hn : n ≤ 1048576) : Calls Try.prog 62 #[.slice a n c, .int .i64 0] w fun e w' => ∃ ra rc M nx cp sg, e = .returned (.tuple #[.slice ra (List.length M) rc, stV nx cp sg]) ∧ 1 ≤ M.length ∧ M.length ≤ 8 ∧ RO w' w.heap.size ra rc M ∧ Below w.heap.size w w' := by
  have HB := hidR h
  clear h
  have HA := hidR (fun o => (Below.refl _ _).alloc (Nat.le_refl _) o : ∀ o, Below w.heap.size w (w.alloc o))
  have RD := hidR (fun o => (HB.out.below (HA.out o)).rdr (c := c) hn (g := w.heap.size + 1) (by simp))
  go_enter Try.func62, Try.ntmps62
  go_wp2_with fail
  refine (l6World0_any (w.heap.size + 1) _ (RD.out _)).mono ?_
  rintro e w1 ⟨ra, rc, M, nx, cp, sg, rfl, hM1, hM8, hRO, hr1⟩
  have S1 := hidR (show SB w1 w.heap.size 0 0 false from block_rs hr1 ((Below.heap_alloc _ _ _ (by simp)).trans (heap_alloc_new _ _)) (by omega))
  have MO1 := hidR (show RO w1 w.heap.size ra rc M from ⟨owns_base hRO.1 (by simp; omega), fun x hx => by obtain ⟨⟨pa, pc, e1, e2⟩, e3⟩ := hRO.2 x hx; exact ⟨⟨pa, pc, e1, e2.lower (by simp; omega)⟩, e3⟩⟩)
  have B1 := hidR (show Below w.heap.size w w1 from (((HA.out _).alloc (by simp) _).trans (hr1.1.below (by simp; omega) (fun g hg => by injection hg with hg; omega))))
  clear hRO hr1 HA RD HB
  obtain ⟨⟨f0, f1, f2, f3⟩, z, hb1⟩ := S1.out.facts
  have z0 := z 0
  have z1 := z 1
  have z2 := z 2
  have z3 := z 3
  clear z
  unfold stV
  go_wp2_with fail
  refine bodyPost_ret (v := .tuple #[.slice ra M.length rc, stV nx cp sg]) (by simp [results, Try.results62, go_sem, f0, f1, f2, f3, stV]) rfl ⟨ra, rc, M, nx, cp, sg, rfl, hM1, hM8, ?_, ?_⟩
  · exact MOset4 MO1.out S1.out
  · exact (((B1.out.setCell (Nat.le_refl _) _).setCell (Nat.le_refl _) _).setCell (Nat.le_refl _) _).setCell (Nat.le_refl _) _

set_option maxRecDepth 100000 in
set_option maxHeartbeats 1600000 in
theorem DrawOps_any (a : Option Addr) (n c : Nat) (a2 : Option Addr) (n2 c2 : Nat) (w : World) (h : ByA w a n) (hn : n ≤ 1048576) (h2 : ByA w a2 n2) (hn2 : n2 ≤ 1048576) : Calls Try.prog 12 #[.slice a n c, .slice a2 n2 c2] w fun e w' => ∃ oa oc N, e = .returned (.slice oa (List.length N) oc) ∧ N.length ≤ 24 ∧ OO w' w.heap.size oa oc N ∧ Below w.heap.size w w' := by
  have HB2 := hidR h2
  have HD := hidR (DrawWorld0_any a n c w h hn)
  clear h2 h
  go_enter Try.func12, Try.ntmps12
  go_wp2_with fail
  refine HD.out.mono ?_
  rintro e w1 ⟨ra, rc, M, nx, cp, sg, rfl, hM1, hM8, hRO, hb1⟩
  have MO1 := hidR hRO
  have B1 := hidR hb1
  have hs1 := hb1.size
  clear hRO hb1 HD
  unfold stV
  go_upto_region 2 with fail
  refine lift_alloc ?_
  intro w2 hW2 _
  have MO2 := hidR (MO1.out.bel hW2)
  have B2 := hidR (B1.out.trans (hW2.mono B1.out.size))
  have hs2 := hW2.size
  have HA := hidR (fun o => (Below.refl _ _).alloc (Nat.le_refl _) o : ∀ o, Below w2.heap.size w2 (w2.alloc o))
  have RD := hidR ((HB2.out.below B2.out).rdr (c := c2) hn2 (g := w2.heap.size) rfl)
  clear hW2 MO1 B1
  go_wp2_with fail
  refine (l4Ops_any w2.heap.size w.heap.size ra rc M _ RD.out (MO2.out.bel (HA.out _)) hM1 hM8).mono ?_
  rintro e w3 ⟨oa, oc, N, rfl, hN, hOO, hr3⟩
  have OO3 := hidR (hOO.lower (show w.heap.size ≤ _ by simp; omega))
  have B3 := hidR (show Below w.heap.size w w3 from (B2.out.alloc (by omega) _).trans (hr3.1.below (by simp; omega) (fun g hg => by injection hg with hg; omega)))
  clear hOO hr3
  go_wp2_with fail
  go_ret
  exact ⟨oa, oc, N, rfl, hN, OO3.out, B3.out⟩
end Go.Proofs.Ytgamdkokmkagaaa

namespace Go.Proofs.Ytgamdkokmkagaaa
open Go.RowKit Go.Deep

theorem cellsU8b : Try.prog.cellsOf 5 = 1 := by kernel_rfl
theorem wfU8b {a : Int} (h : (Lit.int .u8 a).wf = true) : 0 ≤ a ∧ a < 256 := by
  have h0 : IntKind.u8.min = 0 := rfl
  have h1 : IntKind.u8.max = 255 := rfl
  simp [Lit.wf] at h
  omega
section
variable {H : Type} {enc : TypeId × Value → H} {w : World} {base : Nat} {spare : Nat → Bool} {held : Bool}
theorem rd_bytes {n : Nat} {cs : List Value} {x : DataW H × List MemPlace} (h : DataW.trod enc Try.prog w base spare held n 22 cs = some x) : ∃ a k c, cs = [.slice a k c] ∧ ByA w a k := by
  obtain ⟨a, c, vs, e, hR, _, _, hu⟩ := rd_rows (R := fun _ r (u : Nat) => r = [.int .u8 (u : Int)]) (Ok := fun u => u < 256) (0 : Nat) 22 5 5 1 Try.underlying22 cellsU8b (by omega) (fun n cs x h hc => by
    match cs, hc with
    | [v0], _ =>
      obtain ⟨k, e0, _, wf0⟩ := DataW.trod_int Try.underlying5 h
      obtain ⟨h1, h2⟩ := wfU8b wf0
      refine ⟨k.toNat, ?_, by omega⟩
      rw [e0, Int.toNat_of_nonneg h1]) h
  refine ⟨a, vs.length, c, e, fun j hj => ?_⟩
  obtain ⟨b, o, r, e1, _, _, hc, hr⟩ := hR j vs[j] (by simp [hj])
  have h0 := hc 0 _ (by rw [hr]; rfl)
  refine ⟨b, o, vs[j], e1, ?_, hu _ (List.getElem_mem hj), ?_⟩
  · exact World.block_lt_of_cell? w ⟨b, _, none⟩ h0
  · simpa using h0
end
end Go.Proofs.Ytgamdkokmkagaaa
