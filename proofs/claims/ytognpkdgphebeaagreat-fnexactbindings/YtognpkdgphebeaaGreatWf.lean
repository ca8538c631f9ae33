/-
  OUR OWN TEXT. Mo0, Mb1, EqBd, one behind the other.
-/
import Derived.Test.YtognpkdgphebeaaGreatQa
import Derived.Test.YtognpkdgphebeaaGreatWb
import Derived.Test.YtognpkdgphebeaaGreatNd7m
import Derived.Test.YtognpkdgphebeaaGreatWa
import Derived.Deep.RegionHeld3
import Derived.Deep.DrawnRows
import Derived.Test.YtognpkdgphebeaaGreatUe
import Derived.Test.YtognpkdgphebeaaGreatKe
namespace Go.Proofs.YtognpkdgphebeaaGreat
open Go.RowKit

/-- w' is w but for block b and new ones. -/
structure MkO (b : Option Nat) (w w' : World) : Prop where
  rest : Below 0 w w'
  block : ∀ g, g < w.heap.size → b ≠ some g → w'.heap[g]? = w.heap[g]?
theorem MkO.refl (b : Option Nat) (w : World) : MkO b w w := ⟨Below.refl _ _, fun _ _ _ => rfl⟩
theorem MkO.trans {b : Option Nat} {u v w : World} (h : MkO b u v) (k : MkO b v w) : MkO b u w :=
  ⟨h.rest.trans k.rest, fun g hg hs => (k.block g (Nat.lt_of_lt_of_le hg h.rest.size) hs).trans (h.block g hg hs)⟩
theorem MkO.of_below {b : Option Nat} {u v : World} (h : Below u.heap.size u v) : MkO b u v := ⟨h.mono (Nat.zero_le _), fun g hg _ => h.block g hg⟩
theorem MkO.set {w : World} {g o : Nat} (x : Value) : MkO (some g) w (w.setCell ⟨g, o, none⟩ x) :=
  ⟨(Below.refl _ _).setCell (Nat.zero_le _) _, fun h _ hs => Below.heap_setCell _ _ _ _ (fun e => hs (by rw [e]))⟩
theorem MkO.below {b : Option Nat} {w w' : World} {B : Nat} (h : MkO b w w') (hB : B ≤ w.heap.size) (hs : ∀ g, b = some g → B ≤ g) : Below B w w' :=
  ⟨h.rest.os, h.rest.tape, h.rest.output, h.rest.size, fun k hk => h.block k (by omega) (fun e => by have := hs k e; omega)⟩
end Go.Proofs.YtognpkdgphebeaaGreat

namespace Go.Proofs.YtognpkdgphebeaaGreat
open Go.RowKit
attribute [local go_sem ↓] Go.wp_at_zero Go.wp_at_succ

def mkB (k : Int) : Bd := ⟨mText k, (k + 1, k + 2, mText (k + 3))⟩
def mkBs (k : Int) (n : Nat) : List Bd := (List.range n).map fun (j : Nat) => mkB (k + 4 * (j : Int))
theorem mkBs_len (k : Int) (n : Nat) : (mkBs k n).length = n := by simp [mkBs]
theorem mkBs_succ (k : Int) (n : Nat) : mkBs k (n + 1) = mkBs k n ++ [mkB (k + 4 * (n : Int))] := by simp [mkBs, List.range_succ]
theorem mkBs_at (k : Int) (n i : Nat) (h : i < n) : (mkBs k n)[i]? = some (mkB (k + 4 * (i : Int))) := by simp [mkBs, h]
theorem set4 {n : Nat} {A B : List Value} (hA : A.length = n) (x0 x1 x2 x3 y0 y1 y2 y3 : Value) : ((((A ++ ([x0, x1, x2, x3] ++ B)).set n y0).set (n + 1) y1).set (n + 2) y2).set (n + 3) y3 = A ++ ([y0, y1, y2, y3] ++ B) := by
  subst hA
  simp

set_option maxHeartbeats 1600000 in
theorem markBindS_any (a : Option Addr) (c : Nat) (vs : List Bd) (base : Nat) (k0 : Int) (w : World) (ho : w.ownsRow base 106 4 (.slice a vs.length c) vs.length (vs.flatMap bdCells)) (hl : vs.length ≤ 1048576) (hk : 0 < k0) (hk' : k0 + 4 * (vs.length : Int) ≤ 100000000) :
    Calls Tryz.prog 23 #[.slice a vs.length c, .int .i64 k0] w fun e w' =>
      e = .returned (.int .i64 (k0 + 4 * (vs.length : Int))) ∧ w'.ownsRow base 106 4 (.slice a vs.length c) vs.length ((mkBs k0 vs.length).flatMap bdCells) ∧ MkO (Value.slice a vs.length c).ownBlock w w' := by
  go_enter Tryz.func23, Tryz.ntmps23
  go_wp2
  go_loopw [1, 5] (fun kv i wr => ∃ (j : Nat), j ≤ vs.length ∧ i = .int .i64 j ∧ kv = .int .i64 (k0 + 4 * (j : Int)) ∧ wr.ownsRow base 106 4 (.slice a vs.length c) vs.length ((mkBs k0 j ++ vs.drop j).flatMap bdCells) ∧ MkO (Value.slice a vs.length c).ownBlock w wr) (fun _ i _ => vs.length - (intOf i).toNat)
  case atStart => exact ⟨0, by omega, rfl, by simp, by simpa [mkBs] using ho, MkO.refl _ _⟩
  case round =>
    obtain ⟨j, hj, rfl, rfl, ho1, hm⟩ := hrel
    have HO := hidP ho1
    have HM := hidP hm
    clear ho1 hm ho
    by_cases hjl : j < vs.length
    · obtain ⟨v, hvj⟩ : ∃ v, vs[j]? = some v := ⟨vs[j], by simp [hjl]⟩
      have hd : vs.drop j = v :: vs.drop (j + 1) := drop_cons hvj
      have hcells : (mkBs k0 j ++ vs.drop j).flatMap bdCells = (mkBs k0 j).flatMap bdCells ++ ([.string v.var, .int .i64 v.val.kind, .int .i64 v.val.num, .string v.val.sym] ++ (vs.drop (j + 1)).flatMap bdCells) := by
        rw [hd, List.flatMap_append, List.flatMap_cons]
        rfl
      have hAl : ((mkBs k0 j).flatMap bdCells).length = j * 4 := by rw [bdFlat_len, mkBs_len]
      have ho2 := HO.out
      rw [hcells] at ho2
      obtain ⟨g, rfl, hbg, c0, f0⟩ := owns_cell (j := j * 4) (x := .string v.var) ho2 (by rw [List.getElem?_append_right (by omega), hAl]; simp)
      obtain ⟨_, he1, _, c1, f1⟩ := owns_cell (j := j * 4 + 1) (x := .int .i64 v.val.kind) ho2 (by rw [List.getElem?_append_right (by omega), hAl, show j * 4 + 1 - j * 4 = 1 by omega]; simp)
      obtain ⟨_, he2, _, c2, f2⟩ := owns_cell (j := j * 4 + 2) (x := .int .i64 v.val.num) ho2 (by rw [List.getElem?_append_right (by omega), hAl, show j * 4 + 2 - j * 4 = 2 by omega]; simp)
      obtain ⟨_, he3, _, c3, f3⟩ := owns_cell (j := j * 4 + 3) (x := .string v.val.sym) ho2 (by rw [List.getElem?_append_right (by omega), hAl, show j * 4 + 3 - j * 4 = 3 by omega]; simp)
      cases he1
      cases he2
      cases he3
      have hgl : g < wr.heap.size := World.block_lt_of_cell? wr ⟨g, _, none⟩ c0
      obtain ⟨K, eK⟩ : ∃ z : Int, z = k0 + 4 * (j : Int) := ⟨_, rfl⟩
      rw [← eK]
      have hw1 : IntKind.i64.wrap (K + 1) = K + 1 := by rw [IntKind.wrap_i64]; omega
      have hw2 : IntKind.i64.wrap (K + 1 + 1) = K + 2 := by rw [IntKind.wrap_i64]; omega
      have hw3 : IntKind.i64.wrap (K + 2 + 1) = K + 3 := by rw [IntKind.wrap_i64]; omega
      have hw4 : IntKind.i64.wrap (K + 3 + 1) = K + 4 := by rw [IntKind.wrap_i64]; omega
      have hK0 : 0 < K ∧ K ≤ 100000000 := by omega
      have hK3 : 0 < K + 3 ∧ K + 3 ≤ 100000000 := by omega
      have EK := hidP eK
      have H2 := hidP ho2
      clear ho2 hcells hd eK
      go_wp2_with fail
      refine (markText_any K _ hK0.1 hK0.2).mono ?_
      rintro e w1 ⟨rfl, hb1⟩
      obtain ⟨hc1, hf1⟩ := bcell hb1
      have hgl1 : g < w1.heap.size := by
        have := hb1.size
        (try simp at this)
        omega
      go_wp2_with fail
      refine (markText_any (K + 3) _ hK3.1 hK3.2).mono ?_
      rintro e w2 ⟨rfl, hb2⟩
      obtain ⟨hc2, hf2⟩ := bcell hb2
      go_wp2_with fail
      have s1 := owns_of_block H2.out (w' := w1) (fun g' hg' => hb1.block g' (by cases hg'; simpa using hgl))
      have s2 := (((((s1.stored (j * 4) (.string (mText K))).1).stored (j * 4 + 1) (.int .i64 (K + 1))).1).stored (j * 4 + 2) (.int .i64 (K + 2))).1
      have s3 := owns_of_block s2 (w' := w2) (fun g' hg' => hb2.block g' (by cases hg'; simpa using hgl1))
      have s4 := (s3.stored (j * 4 + 3) (.string (mText (K + 3)))).1
      rw [set4 hAl] at s4
      have hfin : (mkBs k0 j).flatMap bdCells ++ ([.string (mText K), .int .i64 (K + 1), .int .i64 (K + 2), .string (mText (K + 3))] ++ (vs.drop (j + 1)).flatMap bdCells) = (mkBs k0 (j + 1) ++ vs.drop (j + 1)).flatMap bdCells := by
        rw [mkBs_succ, List.flatMap_append, List.flatMap_append, ← EK.out]
        simp [bdCells, mkB, V.kind, V.num, V.sym]
      rw [hfin] at s4
      have m0 := fun (u : World) (o : Nat) (x : Value) => MkO.set (w := u) (g := g) (o := o) x
      have m1 := ((((HM.out).trans (MkO.of_below hb1)).trans (m0 _ (j * 4) (.string (mText K)))).trans (m0 _ (j * 4 + 1) (.int .i64 (K + 1)))).trans (m0 _ (j * 4 + 2) (.int .i64 (K + 2)))
      have m2 := (m1.trans (MkO.of_below hb2)).trans (m0 _ (j * 4 + 3) (.string (mText (K + 3))))
      have hcast : K + 4 = k0 + 4 * ((j + 1 : Nat) : Int) := by rw [EK.out]; omega
      clear m1 m0
      go_roundw
      case rel => exact ⟨j + 1, by omega, by go_num, by rw [hcast], s4, m2⟩
      case measure => simp [intOf]; omega
    · go_wp2
      go_ret
      obtain rfl : j = vs.length := by omega
      have := HO.out
      rw [List.drop_eq_nil_of_le (Nat.le_refl _), List.append_nil] at this
      exact ⟨rfl, this, HM.out⟩

set_option maxHeartbeats 1600000 in
theorem heldBindS_any (a : Option Addr) (c n : Nat) (k0 : Int) (w : World) {q : Option Nat} (hv : BdsAt q w a (mkBs k0 n)) (hl : n ≤ 1048576) (hk : 0 < k0) (hk' : k0 + 4 * (n : Int) ≤ 100000000) :
    Calls Tryz.prog 24 #[.slice a n c, .int .i64 k0] w fun e w' =>
      e = .returned (.int .i64 (k0 + 4 * (n : Int))) ∧ Below w.heap.size w w' := by
  go_enter Tryz.func24, Tryz.ntmps24
  go_wp2
  go_loopw [1, 5] (fun kv i wr => ∃ (j : Nat), j ≤ n ∧ i = .int .i64 j ∧ kv = .int .i64 (k0 + 4 * (j : Int)) ∧ Below w.heap.size w wr) (fun _ i _ => n - (intOf i).toNat)
  case atStart => exact ⟨0, by omega, rfl, by simp, Below.refl _ _⟩
  case round =>
    obtain ⟨j, hj, rfl, rfl, hb⟩ := hrel
    by_cases hjl : j < n
    · obtain ⟨b, o, ea, _, d0, d1, d2, d3⟩ := (hv.below hb).get (mkBs_at k0 n j hjl)
      subst ea
      obtain ⟨K, eK⟩ : ∃ z : Int, z = k0 + 4 * (j : Int) := ⟨_, rfl⟩
      rw [← eK] at d0 d1 d2 d3 ⊢
      have c0 : wr.cell? ⟨b, o + j * 4, none⟩ = some (.string (mText K)) := d0
      have c1 : wr.cell? ⟨b, o + j * 4 + 1, none⟩ = some (.int .i64 (K + 1)) := d1
      have c2 : wr.cell? ⟨b, o + j * 4 + 2, none⟩ = some (.int .i64 (K + 2)) := d2
      have c3 : wr.cell? ⟨b, o + j * 4 + 3, none⟩ = some (.string (mText (K + 3))) := d3
      clear d0 d1 d2 d3
      have hw1 : IntKind.i64.wrap (K + 1) = K + 1 := by rw [IntKind.wrap_i64]; omega
      have hw2 : IntKind.i64.wrap (K + 1 + 1) = K + 2 := by rw [IntKind.wrap_i64]; omega
      have hw3 : IntKind.i64.wrap (K + 2 + 1) = K + 3 := by rw [IntKind.wrap_i64]; omega
      have hw4 : IntKind.i64.wrap (K + 3 + 1) = K + 4 := by rw [IntKind.wrap_i64]; omega
      have hK0 : 0 < K ∧ K ≤ 100000000 := by omega
      have hK3 : 0 < K + 3 ∧ K + 3 ≤ 100000000 := by omega
      have hcast : K + 4 = k0 + 4 * ((j + 1 : Nat) : Int) := by omega
      have HC := hidP hcast
      have HB := hidP hb
      clear eK hcast hb
      go_wp2_with fail
      go_region_held3 (fun w' => w'.cell? ⟨b, o + j * 4, none⟩ = some (.string (mText K))) ((first | with_reducible exact cell_below hb1 (by assumption) | exact c0))
        ((go_at_call 57; refine (markText_any K _ hK0.1 hK0.2).mono ?_; rintro e w1 ⟨rfl, hb1⟩))
      have e1 := cell_below hb1 c1
      have e2 := cell_below hb1 c2
      have e3 := cell_below hb1 c3
      clear c0 c1 c2 c3
      go_wp2_with fail
      go_region_held3 (fun w' => w'.cell? ⟨b, o + j * 4 + 3, none⟩ = some (.string (mText (K + 3)))) ((first | with_reducible exact cell_below hb2 (by assumption) | exact e3))
        ((go_at_call 57; refine (markText_any (K + 3) _ hK3.1 hK3.2).mono ?_; rintro e w2 ⟨rfl, hb2⟩))
      go_wp2
      go_roundw
      case rel => exact ⟨j + 1, by omega, by go_num, by rw [HC.out], (HB.out.drew.trans (hb1.mono HB.out.size)).drew.trans (hb2.mono (by have h1 := HB.out.size; have h2 := hb1.size; simp at h2 ⊢; omega))⟩
      case measure => simp [intOf]; omega
    · go_wp2
      go_ret
      obtain rfl : j = n := by omega
      exact ⟨rfl, hb⟩

/-- How far marks count over one rule. -/
def rW1 (x : RS) : Nat := nW 2 6 x.1 + 8 * x.2.1 + nW 3 1 x.2.2
theorem rW1_le (r : Ru) : rW1 (rsOf r) ≤ 8 * r.sz := by
  have h := rW_le r
  unfold rW at h
  unfold rW1
  omega
set_option maxHeartbeats 800000 in
theorem markRule_tr (S : Nat → Prop) (x : RS) (nm : ByteArray) (sal : Int) (a1 : Option Addr) (c1 : Nat) (a2 : Option Addr) (c2 : Nat) (a3 : Option Addr) (c3 : Nat) (k0 : Int) (w : World) (n1 : Nest S w a1 x.1 3 2 6) (n2 : Flat S w a2 x.2.1 8) (n3 : Nest S w a3 x.2.2 4 3 1) (hx : RSle x) (hk : 0 < k0) (hk' : k0 + (rW1 x : Int) ≤ 100000000) :
    Calls Tryz.prog 20 #[.agg #[.string nm, .int .i64 sal, .slice a1 x.1.length c1, .slice a2 x.2.1 c2, .slice a3 x.2.2.length c3], .int .i64 k0] w fun e w' => e = .returned (.int .i64 (k0 + (rW1 x : Int))) ∧ Tr S w w' := by
  obtain ⟨l1, M1', l2, l3, M3'⟩ := hx
  have hrw : rW1 x = nW 2 6 x.1 + 8 * x.2.1 + nW 3 1 x.2.2 := rfl
  have E1 : Hid (nEnd 2 6 k0 x.1 = k0 + (nW 2 6 x.1 : Int)) := nEnd_nW 2 6 x.1 k0
  obtain ⟨q1, f1⟩ : ∃ z : Int, z = k0 + (nW 2 6 x.1 : Int) := ⟨_, rfl⟩
  obtain ⟨q2, f2⟩ : ∃ z : Int, z = q1 + 8 * (x.2.1 : Int) := ⟨_, rfl⟩
  have E3 : Hid (nEnd 3 1 q2 x.2.2 = q2 + (nW 3 1 x.2.2 : Int)) := nEnd_nW 3 1 x.2.2 q2
  have M1 := hidT M1'
  have M3 := hidT M3'
  have P1 := hidT (fun w' (h : Nest S w' a1 x.1 3 2 6) => markPatternS_tr S a1 x.1 c1 k0 w' h (by omega) M1.out (by omega) (by rw [E1.out]; omega))
  have P2 := hidT (fun w' (h : Flat S w' a2 x.2.1 8) => markExprS_tr S a2 x.2.1 c2 q1 w' h (by omega) (by omega) (by omega))
  have P3 := hidT (fun w' (h : Nest S w' a3 x.2.2 4 3 1) => markActionS_tr S a3 x.2.2 c3 q2 w' h (by omega) M3.out (by omega) (by rw [E3.out]; omega))
  have HE := hidT (show q2 + (nW 3 1 x.2.2 : Int) = k0 + (rW1 x : Int) by omega)
  have Q1 := hidT f1
  have Q2 := hidT f2
  have N1 := hidT n1
  have N2 := hidT n2
  have N3 := hidT n3
  clear n1 n2 n3 f1 f2 hrw M1' M3' hk hk'
  go_enter Tryz.func20, Tryz.ntmps20
  go_upto_region 1 with fail
  refine lift_alloc ?_
  intro w0 hW0 hq0
  obtain ⟨b0, b1, b2, b3, b4⟩ := cells5P hq0
  have X0 := hidT (Tr.of_below (S := S) hW0)
  obtain ⟨B, hB⟩ : ∃ b, b = w.heap.size := ⟨_, rfl⟩
  rw [← hB] at b0 b1 b2 b3 b4 ⊢
  clear hW0 hq0 hB
  go_wp2_with fail
  refine (P1.out _ (N1.out.tr X0.out)).mono ?_
  rintro e w1 ⟨rfl, h1⟩
  rw [show nEnd 2 6 k0 x.1 = q1 from by rw [E1.out, Q1.out]]
  have X1 := hidT (X0.out.trans h1)
  have s3 := h1.keep _ _ b3 rfl
  have s4 := h1.keep _ _ b4 rfl
  clear b0 b1 b2 b3 b4
  go_wp2_with fail
  refine (P2.out _ (N2.out.tr X1.out)).mono ?_
  rintro e w2 ⟨rfl, h2⟩
  rw [← Q2.out]
  have X2 := hidT (X1.out.trans h2)
  have s5 := h2.keep _ _ s4 rfl
  clear s3 s4
  go_wp2_with fail
  refine (P3.out _ (N3.out.tr X2.out)).mono ?_
  rintro e w3 ⟨rfl, h3⟩
  rw [show nEnd 3 1 q2 x.2.2 = k0 + (rW1 x : Int) from by rw [E3.out, HE.out]]
  go_wp2_with fail
  go_ret
  exact ⟨rfl, X2.out.trans h3⟩

theorem bindUpTo_names {vs : List Vr} {ts : List Tm} {n N : Nat} (hv : ∀ v ∈ vs, v.name.size ≤ N) (ht : ∀ t ∈ ts, t.var.size ≤ N) : ∀ i, i ≤ ts.length → ∀ v ∈ bindUpTo vs ts n i, v.name.size ≤ N
  | 0, _ => hv
  | i + 1, hi => by
    intro v h
    obtain ⟨t, htt⟩ : ∃ t, ts[i]? = some t := ⟨ts[i], by simp⟩
    rw [bindUpTo_succ htt] at h
    split at h
    · rcases List.mem_append.1 h with h | h
      · exact bindUpTo_names hv ht i (by omega) v h
      · simp at h
        subst h
        exact ht t (List.mem_of_getElem? htt)
    · exact bindUpTo_names hv ht i (by omega) v h
theorem varsGo_names {N : Nat} : ∀ (ps : List Pt) (vs : List Vr) (n : Nat), (∀ v ∈ vs, v.name.size ≤ N) → (∀ p ∈ ps, ∀ t ∈ p.terms, t.var.size ≤ N) → ∀ v ∈ varsGo ps vs n, v.name.size ≤ N
  | [], _, _, hv, _ => hv
  | p :: ps, vs, n, hv, hp => by
    rw [varsGo_cons]
    split
    · exact varsGo_names ps vs n hv (fun q hq => hp q (by simp [hq]))
    · exact varsGo_names ps _ _ (bindUpTo_names hv (hp p (by simp)) _ (Nat.le_refl _)) (fun q hq => hp q (by simp [hq]))
theorem vrVal_le {T : List F} {v : Vr} {N : Nat} (h : ∀ f ∈ T, ∀ x ∈ f.slots, x.sym.size ≤ N) : (vrVal T v).sym.size ≤ N := by
  unfold vrVal
  cases h1 : T[v.fact]? with
  | none => exact Nat.zero_le _
  | some f =>
    simp only [Option.map_some, Option.getD_some]
    cases h2 : f.slots[v.slot]? with
    | none => exact Nat.zero_le _
    | some x => exact h f (List.mem_of_getElem? h1) x (List.mem_of_getElem? h2)
/-- What a match binds is no longer than what came in. -/
theorem bindsM_le {r : Ru} {fs : List F} {tags : List Int} (hr1 : r.le 1048576) (hf : ∀ f ∈ fs, ∀ x ∈ f.slots, x.sym.size ≤ 1048576) : ListLe Bd.le 1048576 (bindsM r fs tags) := by
  have hnil : ListLe Bd.le 1048576 ([] : List Bd) := ⟨Nat.zero_le _, fun x hx => by simp at hx⟩
  unfold bindsM
  by_cases hr : ready [r] fs = true
  · rw [if_pos hr]
    have hk : KnR r.pats [] 0 := chk_known (ready_small hr).1 (List.mem_singleton.2 rfl)
    cases hff : (allM r.pats fs [⟨[], []⟩] 0).1.find? (fun x => decide (x.tags = tags)) with
    | none => exact hnil
    | some x =>
      have h1 := List.mem_of_find?_eq_some hff
      rw [all_pm hk] at h1
      obtain ⟨U, hU, rfl⟩ := List.mem_map.1 h1
      obtain ⟨_, u2, _⟩ := exts_mem.1 hU
      have hch := ready_small hr
      obtain ⟨h6, ht6, _⟩ := chk_small hch.1 (List.mem_singleton.2 rfl)
      have h7 := varsGo_len r.pats [] 0 ht6
      refine ⟨?_, fun b hb => ?_⟩
      · show (envB U (varsGo r.pats [] 0)).length ≤ 1048576
        simp only [envB, List.length_map]
        simp at h7
        omega
      · replace hb : b ∈ envB U (varsGo r.pats [] 0) := hb
        obtain ⟨v, hv, rfl⟩ := List.mem_map.1 hb
        exact ⟨varsGo_names r.pats [] 0 (fun x hx => by simp at hx) (fun p hp t ht => ((hr1.2.1.2 p hp).2.2 t ht).1) v hv, vrVal_le (fun f hf' => hf f (u2 f hf'))⟩
  · rw [if_neg hr]
    exact hnil
end Go.Proofs.YtognpkdgphebeaaGreat

namespace Go.Proofs.YtognpkdgphebeaaGreat
open Go.RowKit
attribute [local go_sem ↓] Go.wp_at_zero Go.wp_at_succ

set_option maxHeartbeats 800000 in
theorem eqBind_same (x : Bd) (w : World) :
    Calls Tryz.prog 53 #[.agg #[.string x.var, .int .i64 x.val.kind, .int .i64 x.val.num, .string x.val.sym], .agg #[.string x.var, .int .i64 x.val.kind, .int .i64 x.val.num, .string x.val.sym]] w fun e w' =>
      e = .returned (.bool true) ∧ Below w.heap.size w w' := by
  have B0 : ∀ o o', Below w.heap.size w ((w.alloc o).alloc o') := fun o o' => ((Below.refl _ _).alloc (Nat.le_refl _) _).alloc (by simp) _
  go_enter Tryz.func53, Tryz.ntmps53
  go_wp2_with (go_at_call 84; refine (eqValue_same x.val _).mono ?_; rintro e w1 ⟨rfl, hb1⟩; have hB1 : Below w.heap.size w w1 := (B0 _ _).trans (hb1.mono (by simp; omega)))
  go_ret
  exact ⟨rfl, hB1⟩

set_option maxHeartbeats 1600000 in
theorem eqBindS_same (a a' : Option Addr) (c c' : Nat) (xs : List Bd) (w : World) {q q' : Option Nat} (hv : BdsAt q w a xs) (hv' : BdsAt q' w a' xs) (hs : ListLe Bd.le 1048576 xs) :
    Calls Tryz.prog 19 #[.slice a xs.length c, .slice a' xs.length c'] w fun e w' =>
      e = .returned (.bool true) ∧ Below w.heap.size w w' := by
  obtain ⟨hl, hs⟩ := hs
  go_enter Tryz.func19, Tryz.ntmps19
  go_wp2
  go_loopw [5] (fun i wr => ∃ (k : Nat), k ≤ xs.length ∧ i = .int .i64 k ∧ Below w.heap.size w wr) (fun i _ => xs.length - (intOf i).toNat)
  case atStart => exact ⟨0, by omega, rfl, Below.refl _ _⟩
  case round =>
    obtain ⟨k, hk, rfl, hb⟩ := hrel
    by_cases hkl : k < xs.length
    · obtain ⟨x, hxk⟩ : ∃ x, xs[k]? = some x := ⟨xs[k], by simp [hkl]⟩
      obtain ⟨b, o, rfl, hq, c0, c1, c2, c3⟩ := (hv.below hb).get hxk
      obtain ⟨b', o', rfl, hq', d0, d1, d2, d3⟩ := (hv'.below hb).get hxk
      have z0 : (0 : Int) ≤ (k : Int) := by omega
      have z1 : (k : Int) < (xs.length : Int) := by omega
      have hsx := hs x (List.mem_of_getElem? hxk)
      have B1 : Below wr.heap.size wr wr.drew := (Below.refl _ _).drew
      go_wp2
      go_region_held3 (fun w' => w'.cell? ⟨b, o + k * 4, none⟩ = some (.string x.var) ∧ w'.cell? ⟨b, o + k * 4 + 1, none⟩ = some (.int .i64 x.val.kind) ∧ w'.cell? ⟨b, o + k * 4 + 2, none⟩ = some (.int .i64 x.val.num) ∧ w'.cell? ⟨b, o + k * 4 + 3, none⟩ = some (.string x.val.sym) ∧ w'.cell? ⟨b', o' + k * 4, none⟩ = some (.string x.var) ∧ w'.cell? ⟨b', o' + k * 4 + 1, none⟩ = some (.int .i64 x.val.kind) ∧ w'.cell? ⟨b', o' + k * 4 + 2, none⟩ = some (.int .i64 x.val.num) ∧ w'.cell? ⟨b', o' + k * 4 + 3, none⟩ = some (.string x.val.sym)) ((go_split_ands; refine ⟨?_, ?_, ?_, ?_, ?_, ?_, ?_, ?_⟩ <;> first | (simp [*]; done) | exact cell_below hb' (by simp [*])))
        (first | (go_at_call 53; refine (eqBind_same x _).mono ?_; rintro e w' ⟨rfl, hb'⟩))
      go_wp2
      go_roundw
      case rel => exact ⟨k + 1, by omega, by go_num, hb.drew.trans (hb'.mono hb.size)⟩
      case measure => simp [intOf]; omega
    · go_wp2
      go_ret
      exact ⟨rfl, hb⟩
end Go.Proofs.YtognpkdgphebeaaGreat
