/-
  OUR OWN TEXT. Ag2, Ag3, one behind the other.
-/
import Derived.Test.YtofflfaineodmaaGreatZu
import Derived.Test.YtofflfaineodmaaGreatZv
import Derived.Test.YtofflfaineodmaaGreatZs
import Derived.Test.YtofflfaineodmaaGreatZq
import Derived.Deep.RegionHeld3
import Derived.Deep.DrawnRows
namespace Go.Proofs.YtofflfaineodmaaGreat
open Go.RowKit

/-- An entry that was made: its data, the slices of its Recency and its tags. -/
abbrev EnX := In × Value × Value
def enCells (rs : List Ru) (x : EnX) : List Value := [.int .i64 (salOf rs x.1), x.2.1, .int .i64 x.1.rule, x.2.2]
structure EnP (rs : List Ru) (w : World) (base : Nat) (x : EnX) : Prop where
  pl : placedI rs x.1 = true
  r : ∃ a c, x.2.1 = .slice a (recA x.1.tags).length c
  ro : w.ownsRow base 3 1 x.2.1 (recA x.1.tags).length (icells (recA x.1.tags))
  t : ∃ a c, x.2.2 = .slice a x.1.tags.length c
  to : w.ownsRow base 3 1 x.2.2 x.1.tags.length (icells x.1.tags)
theorem EnP.same {rs : List Ru} {w w' : World} {base : Nat} {x : EnX} (h : EnP rs w base x) (hk : ∀ (k : Nat) c, w.heap[k]? = some (.cells c 3 (0, 0)) → w'.heap[k]? = w.heap[k]?) : EnP rs w' base x :=
  ⟨h.pl, h.r, owns_of_block h.ro (fun g hg => by obtain ⟨c, hc⟩ := own_type h.ro hg; exact hk g c hc), h.t, owns_of_block h.to (fun g hg => by obtain ⟨c, hc⟩ := own_type h.to hg; exact hk g c hc)⟩
theorem EnP.bel {rs : List Ru} {w w' : World} {base : Nat} {x : EnX} (h : EnP rs w base x) (hb : Below w.heap.size w w') : EnP rs w' base x := h.same (fun k _ hk => hb.block k (lt_of_block' hk))
theorem EnP.lower {rs : List Ru} {w : World} {base base' : Nat} {x : EnX} (h : EnP rs w base x) (hb : base' ≤ base) : EnP rs w base' x := ⟨h.pl, h.r, owns_base h.ro hb, h.t, owns_base h.to hb⟩
structure AgO (rs : List Ru) (w : World) (base : Nat) (a : Option Addr) (c : Nat) (L : List EnX) : Prop where
  row : w.ownsRow base 66 4 (.slice a L.length c) L.length (L.flatMap (enCells rs))
  all : ∀ x ∈ L, EnP rs w base x
theorem AgO.nil (rs : List Ru) (w : World) (base : Nat) : AgO rs w base none 0 [] := ⟨World.ownsRow_nil _ _ _ _, fun x hx => by simp at hx⟩
theorem AgO.bel {rs : List Ru} {w w' : World} {base : Nat} {a : Option Addr} {c : Nat} {L : List EnX} (h : AgO rs w base a c L) (hb : Below w.heap.size w w') : AgO rs w' base a c L := ⟨own_bel h.row hb, fun x hx => (h.all x hx).bel hb⟩
theorem AgO.get {rs : List Ru} {w : World} {base : Nat} {a : Option Addr} {c : Nat} {L : List EnX} (h : AgO rs w base a c L) {i : Nat} {x : EnX} (hi : L[i]? = some x) :
    ∃ g, a = some ⟨g, 0, none⟩ ∧ base ≤ g ∧ (w.cell? ⟨g, i * 4, none⟩ = some (.int .i64 (salOf rs x.1)) ∧ w.cell? ⟨g, i * 4 + 1, none⟩ = some x.2.1 ∧ w.cell? ⟨g, i * 4 + 2, none⟩ = some (.int .i64 x.1.rule) ∧ w.cell? ⟨g, i * 4 + 3, none⟩ = some x.2.2) ∧ (w.frozen? ⟨g, i * 4, none⟩ = false ∧ w.frozen? ⟨g, i * 4 + 1, none⟩ = false ∧ w.frozen? ⟨g, i * 4 + 2, none⟩ = false ∧ w.frozen? ⟨g, i * 4 + 3, none⟩ = false) := by
  have key := fun j u (hj : (enCells rs x)[j]? = some u) => owns_cell h.row (flat_gen (cells := enCells rs) (m := 4) (fun _ => rfl) L i x j u hi hj)
  obtain ⟨g, rfl, hg, c0, f0⟩ := key 0 _ rfl
  obtain ⟨_, e1, _, c1, f1⟩ := key 1 _ rfl
  obtain ⟨_, e2, _, c2, f2⟩ := key 2 _ rfl
  obtain ⟨_, e3, _, c3, f3⟩ := key 3 _ rfl
  cases e1
  cases e2
  cases e3
  exact ⟨g, rfl, hg, ⟨c0, c1, c2, c3⟩, f0, f1, f2, f3⟩
theorem enFlat_set {rs : List Ru} {y : EnX} : ∀ (L : List EnX) (i : Nat), i < L.length → ((((L.flatMap (enCells rs)).set (i * 4) (.int .i64 (salOf rs y.1))).set (i * 4 + 1) y.2.1).set (i * 4 + 2) (.int .i64 y.1.rule)).set (i * 4 + 3) y.2.2 = (L.set i y).flatMap (enCells rs)
  | [], i, h => by simp at h
  | x :: r, 0, _ => by simp [enCells]
  | x :: r, i + 1, h => by
    have ih := enFlat_set (rs := rs) (y := y) r i (by simpa using h)
    have hl : (enCells rs x).length = 4 := rfl
    rw [List.flatMap_cons, List.set_append_right _ _ (by rw [hl]; omega), List.set_append_right _ _ (by rw [hl]; omega), List.set_append_right _ _ (by rw [hl]; omega), List.set_append_right _ _ (by rw [hl]; omega), hl, show (i + 1) * 4 - 4 = i * 4 by omega, show (i + 1) * 4 + 1 - 4 = i * 4 + 1 by omega, show (i + 1) * 4 + 2 - 4 = i * 4 + 2 by omega, show (i + 1) * 4 + 3 - 4 = i * 4 + 3 by omega, ih, List.set_cons_succ, List.flatMap_cons]
/-- One entry is written. -/
theorem AgO.set {rs : List Ru} {w : World} {base g c : Nat} {L : List EnX} {i : Nat} {y : EnX} (h : AgO rs w base (some ⟨g, 0, none⟩) c L) (hi : i < L.length) (hy : EnP rs w base y) :
    AgO rs ((((w.setCell ⟨g, i * 4, none⟩ (.int .i64 (salOf rs y.1))).setCell ⟨g, i * 4 + 1, none⟩ y.2.1).setCell ⟨g, i * 4 + 2, none⟩ (.int .i64 y.1.rule)).setCell ⟨g, i * 4 + 3, none⟩ y.2.2) base (some ⟨g, 0, none⟩) c (L.set i y) ∧
    MkO (some g) w ((((w.setCell ⟨g, i * 4, none⟩ (.int .i64 (salOf rs y.1))).setCell ⟨g, i * 4 + 1, none⟩ y.2.1).setCell ⟨g, i * 4 + 2, none⟩ (.int .i64 y.1.rule)).setCell ⟨g, i * 4 + 3, none⟩ y.2.2) := by
  have hm : MkO (some g) w ((((w.setCell ⟨g, i * 4, none⟩ (.int .i64 (salOf rs y.1))).setCell ⟨g, i * 4 + 1, none⟩ y.2.1).setCell ⟨g, i * 4 + 2, none⟩ (.int .i64 y.1.rule)).setCell ⟨g, i * 4 + 3, none⟩ y.2.2) :=
    (((MkO.set _).trans (MkO.set _)).trans (MkO.set _)).trans (MkO.set _)
  obtain ⟨cc, hc⟩ := own_type h.row (k := g) rfl
  have hk : ∀ (k : Nat) c', w.heap[k]? = some (.cells c' 3 (0, 0)) → ((((w.setCell ⟨g, i * 4, none⟩ (.int .i64 (salOf rs y.1))).setCell ⟨g, i * 4 + 1, none⟩ y.2.1).setCell ⟨g, i * 4 + 2, none⟩ (.int .i64 y.1.rule)).setCell ⟨g, i * 4 + 3, none⟩ y.2.2).heap[k]? = w.heap[k]? := fun k c' hk => hm.block k (lt_of_block' hk) (fun e => by
    injection e with e
    subst e
    exact own_far hc hk (by decide))
  refine ⟨⟨?_, fun x hx => ?_⟩, hm⟩
  · have h1 := (((((((h.row.stored (i * 4) (.int .i64 (salOf rs y.1))).1).stored (i * 4 + 1) y.2.1).1).stored (i * 4 + 2) (.int .i64 y.1.rule)).1).stored (i * 4 + 3) y.2.2).1
    rw [enFlat_set L i hi] at h1
    simpa using h1
  · rcases List.mem_or_eq_of_mem_set hx with hx | rfl
    · exact (h.all x hx).same hk
    · exact hy.same hk
def swapL (L : List EnX) (i j : Nat) (x y : EnX) : List EnX := (L.set i y).set j x
theorem swapL_len (L : List EnX) (i j : Nat) (x y : EnX) : (swapL L i j x y).length = L.length := by simp [swapL]
end Go.Proofs.YtofflfaineodmaaGreat

namespace Go.Proofs.YtofflfaineodmaaGreat
open Go.RowKit
attribute [local go_sem ↓] Go.wp_at_zero Go.wp_at_succ

theorem hidA {p : Prop} (h : p) : Hid p := h
set_option maxHeartbeats 800000 in
theorem agLen_any (a : Option Addr) (n c : Nat) (w : World) : Calls Tryz.prog 27 #[.slice a n c] w fun e w' => e = .returned (.int .i64 (n : Int)) ∧ w' = w := by
  go_enter Tryz.func27, Tryz.ntmps27
  go_wp2_with fail
  go_ret
  exact ⟨rfl, rfl⟩
set_option maxRecDepth 100000 in
set_option maxHeartbeats 3200000 in
theorem agLess_any (rs : List Ru) (L : List EnX) (a : Option Addr) (c base i j : Nat) (x y : EnX) (w : World) (h : AgO rs w base a c L) (hi : L[i]? = some x) (hj : L[j]? = some y) :
    Calls Tryz.prog 158 #[.slice a L.length c, .int .i64 (i : Int), .int .i64 (j : Int)] w fun e w' => e = .returned (.bool (befI rs x.1 y.1)) ∧ Below w.heap.size w w' := by
  obtain ⟨g, rfl, _, ⟨c0, c1, c2, c3⟩, _⟩ := h.get hi
  obtain ⟨g', e', _, ⟨d0, d1, d2, d3⟩, _⟩ := h.get hj
  cases e'
  have hx := h.all x (List.mem_of_getElem? hi)
  have hy := h.all y (List.mem_of_getElem? hj)
  obtain ⟨x, xr, xt⟩ := x
  obtain ⟨y, yr, yt⟩ := y
  obtain ⟨a1, b1, e1⟩ := hx.r
  obtain ⟨a2, b2, e2⟩ := hx.t
  obtain ⟨a3, b3, e3⟩ := hy.r
  obtain ⟨a4, b4, e4⟩ := hy.t
  have o1 := hx.ro
  have o2 := hx.to
  have o3 := hy.ro
  have o4 := hy.to
  simp only at e1 e2 e3 e4 o1 o2 o3 o4 c0 c1 c2 c3 d0 d1 d2 d3
  subst e1 e2 e3 e4
  have tx : x.tags.length ≤ 1048576 := by have := hx.pl; simp only [placedI, Bool.and_eq_true, decide_eq_true_eq] at this; omega
  have ty : y.tags.length ≤ 1048576 := by have := hy.pl; simp only [placedI, Bool.and_eq_true, decide_eq_true_eq] at this; omega
  have HA := hidA (fun w' (hb : Below w.heap.size w w') => ahead_any rs x y a1 a2 a3 a4 b1 b2 b3 b4 w' ((IntsAt.owns o1).below hb) ((IntsAt.owns o2).below hb) ((IntsAt.owns o3).below hb) ((IntsAt.owns o4).below hb) tx ty)
  unfold enV at HA
  have il : i < L.length := (List.getElem?_eq_some_iff.1 hi).1
  have jl : j < L.length := (List.getElem?_eq_some_iff.1 hj).1
  have z0 : (0 : Int) ≤ (i : Int) := by omega
  have z1 : (i : Int) < (L.length : Int) := by omega
  have z2 : (0 : Int) ≤ (j : Int) := by omega
  have z3 : (j : Int) < (L.length : Int) := by omega
  have B1 : Below w.heap.size w w.drew := (Below.refl _ _).drew
  clear hx hy o1 o2 o3 o4 hi hj h
  go_enter Tryz.func158, Tryz.ntmps158
  go_wp2_with fail
  go_region_held3 (fun w' => w'.cell? ⟨g, i * 4, none⟩ = some (.int .i64 (salOf rs x)) ∧ w'.cell? ⟨g, i * 4 + 1, none⟩ = some (.slice a1 (recA x.tags).length b1) ∧ w'.cell? ⟨g, i * 4 + 2, none⟩ = some (.int .i64 x.rule) ∧ w'.cell? ⟨g, i * 4 + 3, none⟩ = some (.slice a2 x.tags.length b2) ∧ w'.cell? ⟨g, j * 4, none⟩ = some (.int .i64 (salOf rs y)) ∧ w'.cell? ⟨g, j * 4 + 1, none⟩ = some (.slice a3 (recA y.tags).length b3) ∧ w'.cell? ⟨g, j * 4 + 2, none⟩ = some (.int .i64 y.rule) ∧ w'.cell? ⟨g, j * 4 + 3, none⟩ = some (.slice a4 y.tags.length b4)) ((go_split_ands; refine ⟨?_, ?_, ?_, ?_, ?_, ?_, ?_, ?_⟩ <;> first | (simp [*]; done) | exact cell_below hb' (by assumption)))
    (first | (go_at_call 160; refine (HA.out _ B1).mono ?_; rintro e w' ⟨rfl, hb'⟩))
  go_wp2_with fail
  go_ret
  exact ⟨rfl, B1.trans (hb'.mono (by simp))⟩
theorem EnP.mko {rs : List Ru} {w w' : World} {base g : Nat} {x : EnX} (h : EnP rs w base x) (hm : MkO (some g) w w') {c : Array Value} (hg : w.heap[g]? = some (.cells c 66 (0, 0))) : EnP rs w' base x :=
  h.same (fun k _ hk => hm.block k (lt_of_block' hk) (fun e => by injection e with e; subst e; exact own_far hg hk (by decide)))
theorem MkO.of_drew {b : Option Nat} {w w' : World} (h : MkO b w.drew w') : MkO b w w' := MkO.trans (MkO.of_below (Below.refl _ _).drew) h
theorem put_at {rs : List Ru} {w : World} {base g c : Nat} {L : List EnX} {i : Nat} {y : EnX} (h : AgO rs w base (some ⟨g, 0, none⟩) c L) (hi : i < L.length) (hy : EnP rs w base y) {P : World → Prop} (k : ∀ wt, AgO rs wt base (some ⟨g, 0, none⟩) c (L.set i y) → MkO (some g) w wt → P wt) : P ((((w.setCell ⟨g, i * 4, none⟩ (.int .i64 (salOf rs y.1))).setCell ⟨g, i * 4 + 1, none⟩ y.2.1).setCell ⟨g, i * 4 + 2, none⟩ (.int .i64 y.1.rule)).setCell ⟨g, i * 4 + 3, none⟩ y.2.2) := k _ (h.set hi hy).1 (h.set hi hy).2
set_option maxRecDepth 100000 in
set_option maxHeartbeats 3200000 in
theorem agSwap_any (rs : List Ru) (L : List EnX) (a : Option Addr) (c base i j : Nat) (x y : EnX) (w : World) (h : AgO rs w base a c L) (hi : L[i]? = some x) (hj : L[j]? = some y) :
    Calls Tryz.prog 159 #[.slice a L.length c, .int .i64 (i : Int), .int .i64 (j : Int)] w fun e w' => (∃ v, e = .returned v) ∧ AgO rs w' base a c (swapL L i j x y) ∧ MkO (Value.slice a L.length c).ownBlock w w' := by
  obtain ⟨g, rfl, _, ⟨c0, c1, c2, c3⟩, f0, f1, f2, f3⟩ := h.get hi
  obtain ⟨g', e', _, ⟨d0, d1, d2, d3⟩, _⟩ := h.get hj
  cases e'
  have hx := h.all x (List.mem_of_getElem? hi)
  have hy := h.all y (List.mem_of_getElem? hj)
  have H0 := hidA h
  have HX := hidA hx
  have HY := hidA hy
  obtain ⟨a1, b1, e1⟩ := hx.r
  obtain ⟨a2, b2, e2⟩ := hx.t
  obtain ⟨a3, b3, e3⟩ := hy.r
  obtain ⟨a4, b4, e4⟩ := hy.t
  have E1 := hidA e1
  have E2 := hidA e2
  have E3 := hidA e3
  have E4 := hidA e4
  rw [e1] at c1
  rw [e2] at c3
  rw [e3] at d1
  rw [e4] at d3
  have il : i < L.length := (List.getElem?_eq_some_iff.1 hi).1
  have jl : j < L.length := (List.getElem?_eq_some_iff.1 hj).1
  have z0 : (0 : Int) ≤ (i : Int) := by omega
  have z1 : (i : Int) < (L.length : Int) := by omega
  have z2 : (0 : Int) ≤ (j : Int) := by omega
  have z3 : (j : Int) < (L.length : Int) := by omega
  have HJ := hidA hj
  obtain ⟨cg, hcg⟩ := own_type h.row (k := g) rfl
  have HG := hidA (show w.drew.heap[g]? = some (.cells cg 66 (0, 0)) from hcg)
  clear hx hy h hi hj e1 e2 e3 e4 hcg
  go_enter Tryz.func159, Tryz.ntmps159
  go_wp2_with fail
  refine wp_region_noPanic ?_
  refine wp_region_held_drew (S := (fun _ => True)) (by kernel_rfl) ?_ (fun hHeld => ?_)
  · (try dsimp only)
    all_goals trivial
  refine tk 0 hHeld ?_
  (try simp only [pA, pZ, pS])
  refine tk 1 hHeld ?_
  (try simp only [pA, pZ, pS])
  refine tk 2 hHeld ?_
  (try simp only [pA, pZ, pS])
  refine tk 3 hHeld ?_
  (try simp only [pA, pZ, pS])
  refine tk 4 hHeld ?_
  (try simp only [pA, pZ, pS])
  refine tk 5 hHeld ?_
  (try simp only [pA, pZ, pS])
  refine tk 6 hHeld ?_
  (try simp only [pA, pZ, pS])
  refine tk 8 hHeld ?_
  (try simp only [pA, pZ, pS])
  refine tk 9 hHeld ?_
  (try simp only [pA, pZ, pS])
  refine tk 10 hHeld ?_
  (try simp only [pA, pZ, pS])
  refine wpAnyH_ready (rs := [7, 11]) (by kernel_rfl) (by simp) (AllReadyH.cons (List.getElem?_toArray.trans rfl) (fun K hK => ?_) (AllReadyH.cons (List.getElem?_toArray.trans rfl) (fun K hK => ?_) AllReadyH.nil))
  · go_simp
    refine hK.out _ _ trivial (fun hHeld => ?_)
    clear hK K
    (first | simp only [pA, pZ, pS] | simp only [pN] | skip)
    refine wpAnyH_ready (rs := [11]) (by kernel_rfl) (by simp) (AllReadyH.cons (List.getElem?_toArray.trans rfl) (fun K hK => ?_) AllReadyH.nil)
    go_simp
    refine hK.out _ _ trivial (fun hHeld => ?_)
    clear hK K
    (first | simp only [pA, pZ, pS] | simp only [pN] | skip)
    refine tk 12 hHeld ?_
    (try simp only [pA, pZ, pS])
    refine wpAnyH_ready (rs := [13]) (by kernel_rfl) (by simp) (AllReadyH.cons (List.getElem?_toArray.trans rfl) (fun K hK => ?_) AllReadyH.nil)
    go_simp
    refine hK.out _ _ trivial (fun hHeld => ?_)
    clear hK K
    (first | simp only [pA, pZ, pS] | simp only [pN] | skip)
    rw [← E3.out, ← E4.out]
    refine put_at (H0.out.bel (Below.refl _ _).drew) il (HY.out.bel (Below.refl _ _).drew) ?_
    intro w1 hA1 hm1
    have hyj : (L.set i y)[j]? = some y := by by_cases e : i = j; subst e; rw [List.getElem?_set_self il]; rw [List.getElem?_set_ne e]; exact HJ.out
    obtain ⟨g1, eg, _, ⟨p0, p1, p2, p3⟩, q0, q1, q2, q3⟩ := hA1.get hyj
    cases eg
    have HX1 := hidA ((HX.out.bel (Below.refl _ _).drew).mko hm1 HG.out)
    have A1 := hidA hA1
    have M1 := hidA hm1
    rw [E3.out] at p1
    rw [E4.out] at p3
    (try rw [E3.out])
    (try rw [E4.out])
    clear hA1 hm1 hyj
    refine tk 14 hHeld ?_
    (try simp only [pA, pZ, pS])
    refine wpAnyH_ready (rs := [15]) (by kernel_rfl) (by simp) (AllReadyH.cons (List.getElem?_toArray.trans rfl) (fun K hK => ?_) AllReadyH.nil)
    go_simp
    refine hK.out _ _ trivial (fun hHeld => ?_)
    clear hK K
    (first | simp only [pA, pZ, pS] | simp only [pN] | skip)
    rw [← E1.out, ← E2.out]
    refine put_at A1.out (by rw [List.length_set]; exact jl) HX1.out ?_
    intro w2 hA2 hm2
    refine wpAnyH_done (by kernel_rfl) ?_ _
    refine NoPanic.normal ?_
    have M2 := hidA (M1.out.trans hm2)
    have A2 := hidA hA2
    clear hA2 hm2
    go_wp2_with fail
    go_end0
    exact ⟨⟨_, rfl⟩, A2.out, M2.out.of_drew⟩
  · go_simp
    refine hK.out _ _ trivial (fun hHeld => ?_)
    clear hK K
    (first | simp only [pA, pZ, pS] | simp only [pN] | skip)
    refine wpAnyH_ready (rs := [7]) (by kernel_rfl) (by simp) (AllReadyH.cons (List.getElem?_toArray.trans rfl) (fun K hK => ?_) AllReadyH.nil)
    go_simp
    refine hK.out _ _ trivial (fun hHeld => ?_)
    clear hK K
    (first | simp only [pA, pZ, pS] | simp only [pN] | skip)
    refine tk 12 hHeld ?_
    (try simp only [pA, pZ, pS])
    refine wpAnyH_ready (rs := [13]) (by kernel_rfl) (by simp) (AllReadyH.cons (List.getElem?_toArray.trans rfl) (fun K hK => ?_) AllReadyH.nil)
    go_simp
    refine hK.out _ _ trivial (fun hHeld => ?_)
    clear hK K
    (first | simp only [pA, pZ, pS] | simp only [pN] | skip)
    rw [← E3.out, ← E4.out]
    refine put_at (H0.out.bel (Below.refl _ _).drew) il (HY.out.bel (Below.refl _ _).drew) ?_
    intro w1 hA1 hm1
    have hyj : (L.set i y)[j]? = some y := by by_cases e : i = j; subst e; rw [List.getElem?_set_self il]; rw [List.getElem?_set_ne e]; exact HJ.out
    obtain ⟨g1, eg, _, ⟨p0, p1, p2, p3⟩, q0, q1, q2, q3⟩ := hA1.get hyj
    cases eg
    have HX1 := hidA ((HX.out.bel (Below.refl _ _).drew).mko hm1 HG.out)
    have A1 := hidA hA1
    have M1 := hidA hm1
    rw [E3.out] at p1
    rw [E4.out] at p3
    (try rw [E3.out])
    (try rw [E4.out])
    clear hA1 hm1 hyj
    refine tk 14 hHeld ?_
    (try simp only [pA, pZ, pS])
    refine wpAnyH_ready (rs := [15]) (by kernel_rfl) (by simp) (AllReadyH.cons (List.getElem?_toArray.trans rfl) (fun K hK => ?_) AllReadyH.nil)
    go_simp
    refine hK.out _ _ trivial (fun hHeld => ?_)
    clear hK K
    (first | simp only [pA, pZ, pS] | simp only [pN] | skip)
    rw [← E1.out, ← E2.out]
    refine put_at A1.out (by rw [List.length_set]; exact jl) HX1.out ?_
    intro w2 hA2 hm2
    refine wpAnyH_done (by kernel_rfl) ?_ _
    refine NoPanic.normal ?_
    have M2 := hidA (M1.out.trans hm2)
    have A2 := hidA hA2
    clear hA2 hm2
    go_wp2_with fail
    go_end0
    exact ⟨⟨_, rfl⟩, A2.out, M2.out.of_drew⟩
end Go.Proofs.YtofflfaineodmaaGreat
