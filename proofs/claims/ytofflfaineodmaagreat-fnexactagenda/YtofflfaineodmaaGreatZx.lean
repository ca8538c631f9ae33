/-
  OUR OWN TEXT. Ag6, Ag7, Ag8, Ag9, one behind the other.
-/
import Derived.Test.YtofflfaineodmaaGreatAg5m
import Derived.Test.YtofflfaineodmaaGreatZs
namespace Go.Proofs.YtofflfaineodmaaGreat
open Go.RowKit
attribute [local go_sem ↓] Go.wp_at_zero Go.wp_at_succ

/-- What work on the agenda keeps: all that lies below base, and cells that are neither entries nor an agenda. -/
structure FrA (base : Nat) (w w' : World) : Prop where
  bel : Below base w w'
  cel : ∀ (k : Nat) c t fr, w.heap[k]? = some (.cells c t fr) → t ≠ 66 → t ≠ 62 → w'.heap[k]? = some (.cells c t fr)
theorem FrA.trans {base : Nat} {u v w : World} (h : FrA base u v) (k : FrA base v w) : FrA base u w := ⟨h.bel.trans k.bel, fun j c t fr hj h1 h2 => k.cel j c t fr (h.cel j c t fr hj h1 h2) h1 h2⟩
theorem FrA.of_below {base : Nat} {w w' : World} (h : Below w.heap.size w w') (hb : base ≤ w.heap.size) : FrA base w w' := ⟨h.mono hb, fun k _ _ _ hk _ _ => (h.block k (lt_of_block' hk)).trans hk⟩
theorem FrA.mko {rs : List Ru} {w w' : World} {base n c : Nat} {a : Option Addr} {L : List EnX} (h : AgO rs w base a c L) (hn : L.length = n) (hm : MkO (Value.slice a n c).ownBlock w w') (hb : base ≤ w.heap.size) : FrA base w w' := by
  subst hn
  refine ⟨hm.below hb (fun g hg => (h.row.lt g hg).1), fun k cc t fr hk h1 _ => (hm.block k (lt_of_block' hk) (fun e => ?_)).trans hk⟩
  obtain ⟨c2, h2⟩ := own_type h.row e
  rw [hk] at h2
  injection h2 with h2
  injection h2 with _ h2 _
  exact h1 h2
theorem FrA.grown {rs : List Ru} {w w' : World} {base n c : Nat} {a : Option Addr} {L : List EnX} (h : AgO rs w base a c L) (hn : L.length = n) (hg : w.grownBy w' (Value.slice a n c).ownBlock) (hb : base ≤ w.heap.size) : FrA base w w' := by
  subst hn
  refine ⟨(Below.refl base w).grown hg hb (fun g hg => (h.row.lt g hg).1), fun k cc t fr hk h1 _ => (hg.block k (lt_of_block' hk) (fun e => ?_)).trans hk⟩
  obtain ⟨c2, h2⟩ := own_type h.row e.symm
  rw [hk] at h2
  injection h2 with h2
  injection h2 with _ h2 _
  exact h1 h2
theorem FrA.box {w : World} {base lb : Nat} {v v' : Value} (h : w.heap[lb]? = some (.cells #[v] 62 (0, 0))) (hb : base ≤ lb) : FrA base w (w.setCell ⟨lb, 0, none⟩ v') := by
  refine ⟨(Below.refl _ _).setCell hb _, fun k c t fr hk _ h2 => ?_⟩
  rw [Below.heap_setCell _ _ _ _ (fun e => ?_)]
  · exact hk
  · simp only at e
    subst e
    rw [h] at hk
    injection hk with hk
    injection hk with _ hk _
    exact h2 hk.symm
theorem AgO.fra {rs : List Ru} {w w' : World} {base : Nat} {a : Option Addr} {c : Nat} {L : List EnX} (h : AgO rs w base a c L) (hr : w'.ownsRow base 66 4 (.slice a L.length c) L.length (L.flatMap (enCells rs))) (hf : FrA base w w') : AgO rs w' base a c L :=
  ⟨hr, fun x hx => (h.all x hx).same (fun k c hk => (hf.cel k c _ _ hk (by decide) (by decide)).trans hk.symm)⟩
theorem infoEnF : (Tryz.prog.info? 66).map (fun i => (i.zero, i.size, i.bytes)) = some (some (.agg #[.int .i64 0, .slice none 0 0, .int .i64 0, .slice none 0 0]), 4, 64) := by kernel_rfl
theorem AgO.snoc {rs : List Ru} {w w' : World} {base : Nat} {a a' : Option Addr} {c c' : Nat} {L : List EnX} {x : EnX} (h : AgO rs w base a c L) (hx : EnP rs w base x) (ho : w'.ownsRow base 66 4 (.slice a' (L.length + 1) c') (L.length + 1) (L.flatMap (enCells rs) ++ enCells rs x)) (hf : FrA base w w') : AgO rs w' base a' c' (L ++ [x]) := by
  refine ⟨by simpa using ho, fun y hy => ?_⟩
  have hy' : EnP rs w base y := by
    rcases List.mem_append.1 hy with hy | hy
    · exact h.all y hy
    · simp at hy
      subst hy
      exact hx
  exact hy'.same (fun k c hk => (hf.cel k c _ _ hk (by decide) (by decide)).trans hk.symm)
theorem ta_any (v : Value) (w : World) : Sem.run Tryz.prog (Instr.typeAssert (.iface 66 v) 20 66 false) w = .ok v w := by kernel_rfl
/-- The agenda in its box. -/
def AgB (rs : List Ru) (w : World) (base lb : Nat) (L : List EnX) : Prop := ∃ a c, w.heap[lb]? = some (.cells #[.slice a L.length c] 62 (0, 0)) ∧ AgO rs w base a c L
set_option maxRecDepth 100000 in
set_option maxHeartbeats 3200000 in
theorem agPush_any (rs : List Ru) (L : List EnX) (base lb : Nat) (x : In) (a1 a2 : Option Addr) (c1 c2 : Nat) (w : World) (h : AgB rs w base lb L) (hx : EnP rs w base (x, .slice a1 (recA x.tags).length c1, .slice a2 x.tags.length c2)) (hlb : base ≤ lb) (hl : L.length ≤ 1048576) :
    Calls Tryz.prog 167 #[.pointer (some ⟨lb, 0, none⟩), .iface 66 (enV rs x a1 c1 a2 c2)] w fun e w' => (∃ v, e = .returned v) ∧ AgB rs w' base lb (L ++ [(x, .slice a1 (recA x.tags).length c1, .slice a2 x.tags.length c2)]) ∧ FrA base w w' := by
  unfold enV
  obtain ⟨a, c, hbx, hA⟩ := h
  have HX := hidA hx
  have HBX := hidA hbx
  have AA := hidA hA
  have hlw : lb < w.heap.size := lt_of_block' hbx
  have k0 : w.cell? ⟨lb, 0, none⟩ = some (.slice a L.length c) := by simp [World.cell?, hbx]
  have hnB : (Value.slice a L.length c).ownBlock ≠ some lb := fun e => by obtain ⟨_, h1⟩ := own_type hA.row e; exact own_far h1 hbx (by decide)
  have HW := hidA (show ∀ o', Below w.heap.size w (w.drew.alloc o') from fun o' => (Below.refl _ _).drew.alloc (Nat.le_refl _) o')
  have k1 := fun o => cell_below (HW.out o) k0
  have hta := ta_any (.agg #[.int .i64 (salOf rs x), .slice a1 (recA x.tags).length c1, .int .i64 x.rule, .slice a2 x.tags.length c2])
  clear hx hbx hA
  go_enter Tryz.func167, Tryz.ntmps167
  go_wp2_with fail
  refine wp_region_noPanic ?_
  refine wp_region_held_drew (S := (fun _ => True)) (by kernel_rfl) ?_ (fun hHeld => ?_)
  · (try dsimp only)
    all_goals trivial
  refine tk 0 hHeld ?_
  (try simp only [pA, pZ, pS])
  refine tk 1 hHeld ?_
  (try simp only [pA, pZ, pS])
  refine tk 2 hHeld ?_
  (try simp only [pA, pZ, pS])
  refine tk 4 hHeld ?_
  (try simp only [pA, pZ, pS])
  refine tk 5 hHeld ?_
  (try simp only [pA, pZ, pS])
  refine wpAnyH_ready (rs := [3, 6]) (by kernel_rfl) (by simp) (AllReadyH.cons (List.getElem?_toArray.trans rfl) (fun K hK => ?_) (AllReadyH.cons (List.getElem?_toArray.trans rfl) (fun K hK => ?_) AllReadyH.nil))
  · go_simp
    refine hK.out _ _ trivial (fun hHeld => ?_)
    clear hK K
    (first | simp only [pA, pZ, pS] | simp only [pN] | skip)
    refine wpAnyH_ready (rs := [6]) (by kernel_rfl) (by simp) (AllReadyH.cons (List.getElem?_toArray.trans rfl) (fun K hK => ?_) AllReadyH.nil)
    go_simp
    refine hK.out _ _ trivial (fun hHeld => ?_)
    clear hK K
    (first | simp only [pA, pZ, pS] | simp only [pN] | skip)
    refine wpAnyH_ready (rs := [7]) (by kernel_rfl) (by simp) (AllReadyH.cons (List.getElem?_toArray.trans rfl) (fun K hK => ?_) AllReadyH.nil)
    (refine step_append_any (by rfl) (.tmp 7) (.tmp 10) 62 (by rfl) base 66 _ 4 64 Tryz.underlying62 infoEnF (by rfl) (by omega) _ L.length _ (by rfl) (own_bel AA.out.row (HW.out _)) (some ⟨_, 0, none⟩) 1 1 (by rfl) (enCells rs (x, .slice a1 (recA x.tags).length c1, .slice a2 x.tags.length c2)) (by rfl) (fun e => by cases e) (news_new _ _ _ _ (by first | rfl | simp)) (by intro u hu; simp [enCells] at hu; rcases hu with rfl | rfl | rfl | rfl <;> rfl) (by unfold maxLen; omega) (by omega) (by simp; omega) ?_; intro a8 c8 w8 ho8 hg8 hl8)
    refine hK.out _ _ trivial (fun hHeld => ?_)
    clear hK K
    (first | simp only [pA, pZ, pS] | simp only [pN] | skip)
    have q8 : w8.heap[lb]? = some (.cells #[.slice a L.length c] 62 (0, 0)) := (hg8.out.block lb (by simp; omega) (Ne.symm hnB)).trans (((HW.out _).block lb (by omega)).trans HBX.out)
    have k8 : w8.cell? ⟨lb, 0, none⟩ = some (.slice a L.length c) := by simp [World.cell?, q8]
    have f8 : w8.frozen? ⟨lb, 0, none⟩ = false := by simp [World.frozen?, q8]
    have F8 := hidA ((FrA.of_below (HW.out _) (by omega)).trans (FrA.grown (AA.out.bel (HW.out _)) rfl hg8.out (by simp; omega)))
    have A8 := hidA (AgO.snoc AA.out HX.out ho8.out F8.out)
    have Q8 := hidA q8
    clear ho8 hg8 hl8 q8
    refine tk 8 hHeld ?_
    (try simp only [pA, pZ, pS])
    refine wpAnyH_ready (rs := [9]) (by kernel_rfl) (by simp) (AllReadyH.cons (List.getElem?_toArray.trans rfl) (fun K hK => ?_) AllReadyH.nil)
    go_simp
    refine hK.out _ _ trivial (fun hHeld => ?_)
    clear hK K
    (first | simp only [pA, pZ, pS] | simp only [pN] | skip)
    refine wpAnyH_done (by kernel_rfl) ?_ _
    refine NoPanic.normal ?_
    have F9 := hidA (F8.out.trans (FrA.box (v' := .slice a8 (L.length + 1) c8) Q8.out hlb))
    have B9 := hidA (heap_setCell_same (i := 0) Q8.out (.slice a8 (L.length + 1) c8))
    have A9 := hidA (A8.out.fra (own_set A8.out.row Q8.out (by decide)) (FrA.box (v' := .slice a8 (L.length + 1) c8) Q8.out hlb))
    clear k8 f8 k1 k0
    go_wp2_with fail
    go_end0
    exact ⟨⟨_, rfl⟩, ⟨a8, c8, by simpa using B9.out, A9.out⟩, F9.out⟩
  · go_simp
    refine hK.out _ _ trivial (fun hHeld => ?_)
    clear hK K
    (first | simp only [pA, pZ, pS] | simp only [pN] | skip)
    refine wpAnyH_ready (rs := [3]) (by kernel_rfl) (by simp) (AllReadyH.cons (List.getElem?_toArray.trans rfl) (fun K hK => ?_) AllReadyH.nil)
    go_simp
    refine hK.out _ _ trivial (fun hHeld => ?_)
    clear hK K
    (first | simp only [pA, pZ, pS] | simp only [pN] | skip)
    refine wpAnyH_ready (rs := [7]) (by kernel_rfl) (by simp) (AllReadyH.cons (List.getElem?_toArray.trans rfl) (fun K hK => ?_) AllReadyH.nil)
    (refine step_append_any (by rfl) (.tmp 7) (.tmp 10) 62 (by rfl) base 66 _ 4 64 Tryz.underlying62 infoEnF (by rfl) (by omega) _ L.length _ (by rfl) (own_bel AA.out.row (HW.out _)) (some ⟨_, 0, none⟩) 1 1 (by rfl) (enCells rs (x, .slice a1 (recA x.tags).length c1, .slice a2 x.tags.length c2)) (by rfl) (fun e => by cases e) (news_new _ _ _ _ (by first | rfl | simp)) (by intro u hu; simp [enCells] at hu; rcases hu with rfl | rfl | rfl | rfl <;> rfl) (by unfold maxLen; omega) (by omega) (by simp; omega) ?_; intro a8 c8 w8 ho8 hg8 hl8)
    refine hK.out _ _ trivial (fun hHeld => ?_)
    clear hK K
    (first | simp only [pA, pZ, pS] | simp only [pN] | skip)
    have q8 : w8.heap[lb]? = some (.cells #[.slice a L.length c] 62 (0, 0)) := (hg8.out.block lb (by simp; omega) (Ne.symm hnB)).trans (((HW.out _).block lb (by omega)).trans HBX.out)
    have k8 : w8.cell? ⟨lb, 0, none⟩ = some (.slice a L.length c) := by simp [World.cell?, q8]
    have f8 : w8.frozen? ⟨lb, 0, none⟩ = false := by simp [World.frozen?, q8]
    have F8 := hidA ((FrA.of_below (HW.out _) (by omega)).trans (FrA.grown (AA.out.bel (HW.out _)) rfl hg8.out (by simp; omega)))
    have A8 := hidA (AgO.snoc AA.out HX.out ho8.out F8.out)
    have Q8 := hidA q8
    clear ho8 hg8 hl8 q8
    refine tk 8 hHeld ?_
    (try simp only [pA, pZ, pS])
    refine wpAnyH_ready (rs := [9]) (by kernel_rfl) (by simp) (AllReadyH.cons (List.getElem?_toArray.trans rfl) (fun K hK => ?_) AllReadyH.nil)
    go_simp
    refine hK.out _ _ trivial (fun hHeld => ?_)
    clear hK K
    (first | simp only [pA, pZ, pS] | simp only [pN] | skip)
    refine wpAnyH_done (by kernel_rfl) ?_ _
    refine NoPanic.normal ?_
    have F9 := hidA (F8.out.trans (FrA.box (v' := .slice a8 (L.length + 1) c8) Q8.out hlb))
    have B9 := hidA (heap_setCell_same (i := 0) Q8.out (.slice a8 (L.length + 1) c8))
    have A9 := hidA (A8.out.fra (own_set A8.out.row Q8.out (by decide)) (FrA.box (v' := .slice a8 (L.length + 1) c8) Q8.out hlb))
    clear k8 f8 k1 k0
    go_wp2_with fail
    go_end0
    exact ⟨⟨_, rfl⟩, ⟨a8, c8, by simpa using B9.out, A9.out⟩, F9.out⟩
end Go.Proofs.YtofflfaineodmaaGreat

namespace Go.Proofs.YtofflfaineodmaaGreat
open Go.RowKit
attribute [local go_sem ↓] Go.wp_at_zero Go.wp_at_succ

theorem own_cut {w : World} {base : Nat} {e : TypeId} {m : Nat} {a : Option Addr} {n c k : Nat} {xs : List Value} (h : w.ownsRow base e m (.slice a n c) n xs) (hk : k ≤ n) : w.ownsRow base e m (.slice a k c) k (xs.take (k * m)) := by
  have hl : (xs.take (k * m)).length = k * m := by
    rw [List.length_take, h.1]
    exact Nat.min_eq_left (Nat.mul_le_mul_right m hk)
  refine ⟨hl, ?_⟩
  rcases h.2 with ⟨h1, h2⟩ | ⟨g, cap, cur, h1, h2, h3, h4, h5, h6, h7⟩
  · injection h1 with e1 e2 e3
    subst e1 e3
    obtain rfl : k = 0 := by omega
    exact .inl ⟨rfl, rfl⟩
  · injection h1 with e1 e2 e3
    subst e1 e3
    refine .inr ⟨g, c, cur, rfl, h2, h3, by omega, h5, h6, ?_⟩
    rw [← h7, List.take_take]
    congr 1
    exact (Nat.min_eq_left (Nat.mul_le_mul_right m hk)).symm
theorem enFlat_len (rs : List Ru) (L : List EnX) : (L.flatMap (enCells rs)).length = L.length * 4 := by
  induction L with
  | nil => rfl
  | cons x r ih => rw [List.flatMap_cons, List.length_append, ih, List.length_cons, show (enCells rs x).length = 4 from rfl]; omega
theorem AgO.init {rs : List Ru} {w : World} {base : Nat} {a : Option Addr} {c : Nat} {L : List EnX} {x : EnX} (h : AgO rs w base a c (L ++ [x])) : AgO rs w base a c L := by
  have h1 := own_cut h.row (k := L.length) (by simp)
  rw [List.flatMap_append, List.take_append_of_le_length (by rw [enFlat_len]; exact Nat.le_refl _), List.take_of_length_le (by rw [enFlat_len]; exact Nat.le_refl _)] at h1
  exact ⟨h1, fun y hy => h.all y (by simp [hy])⟩
theorem AgO.cap {rs : List Ru} {w : World} {base : Nat} {a : Option Addr} {c : Nat} {L : List EnX} (h : AgO rs w base a c L) : L.length ≤ c := by
  rcases h.row.2 with ⟨h1, h2⟩ | ⟨g, cap, cur, h1, _, _, h4, _⟩
  · omega
  · injection h1 with _ _ e3
    omega
def enAgg (rs : List Ru) (x : EnX) : Value := .agg #[.int .i64 (salOf rs x.1), x.2.1, .int .i64 x.1.rule, x.2.2]
set_option maxRecDepth 100000 in
set_option maxHeartbeats 3200000 in
theorem agPop_any (rs : List Ru) (L : List EnX) (x : EnX) (base lb : Nat) (w : World) (h : AgB rs w base lb (L ++ [x])) (hlb : base ≤ lb) (hl : L.length ≤ 1048576) :
    Calls Tryz.prog 166 #[.pointer (some ⟨lb, 0, none⟩)] w fun e w' => e = .returned (.iface 66 (enAgg rs x)) ∧ AgB rs w' base lb L ∧ FrA base w w' := by
  obtain ⟨a, c, hbx, hA⟩ := h
  have hlen : (L ++ [x]).length = L.length + 1 := by simp
  obtain ⟨g, rfl, _, ⟨c0, c1, c2, c3⟩, _⟩ := hA.get (i := L.length) (x := x) (by simp)
  have hx := hA.all x (by simp)
  have hcap := hA.cap
  obtain ⟨x, xr, xt⟩ := x
  obtain ⟨a1, b1, e1⟩ := hx.r
  obtain ⟨a2, b2, e2⟩ := hx.t
  simp only at e1 e2 c0 c1 c2 c3
  subst e1 e2
  rw [hlen] at hbx hcap
  unfold enAgg
  have AA := hidA hA
  have HBX := hidA hbx
  have hlw : lb < w.heap.size := lt_of_block' hbx
  have k0 : w.cell? ⟨lb, 0, none⟩ = some (.slice (some ⟨g, 0, none⟩) (L.length + 1) c) := by simp [World.cell?, hbx]
  have z0 : (0 : Int) ≤ (L.length : Int) := by omega
  have z1 : (L.length : Int) < ((L.length + 1 : Nat) : Int) := by omega
  have z2 : (L.length : Int) ≤ (c : Int) := by omega
  have z3 : ((L.length + 1 : Nat) : Int) - 1 = (L.length : Int) := by omega
  clear hx hbx hA hlen
  go_enter Tryz.func166, Tryz.ntmps166
  go_upto_region 3 with fail
  refine lift_alloc ?_
  intro w1 hW1 hq1
  obtain ⟨tb, htb⟩ : ∃ b, b = w.heap.size := ⟨_, rfl⟩
  rw [← htb] at hq1 ⊢
  have hne : tb ≠ lb := by omega
  have q1 := (hW1.block _ hlw).trans HBX.out
  have k1 : w1.cell? ⟨lb, 0, none⟩ = some (.slice (some ⟨g, 0, none⟩) (L.length + 1) c) := by simp [World.cell?, q1]
  have f1 : w1.frozen? ⟨lb, 0, none⟩ = false := by simp [World.frozen?, q1]
  have d0 : w1.cell? ⟨tb, 0, none⟩ = some (.int .i64 (salOf rs x)) := by simp [World.cell?, hq1]
  have d1 : w1.cell? ⟨tb, 1, none⟩ = some (.slice a1 (recA x.tags).length b1) := by simp [World.cell?, hq1]
  have d2 : w1.cell? ⟨tb, 2, none⟩ = some (.int .i64 x.rule) := by simp [World.cell?, hq1]
  have d3 : w1.cell? ⟨tb, 3, none⟩ = some (.slice a2 x.tags.length b2) := by simp [World.cell?, hq1]
  have A1 := hidA ((AA.out.bel hW1).init)
  have Q1 := hidA q1
  have F1 := hidA (FrA.of_below (base := base) hW1 (by omega))
  clear hW1 hq1 q1 htb c0 c1 c2 c3 k0
  go_upto_region 4 with fail
  have F2 := hidA (F1.out.trans (FrA.box (v' := .slice (some ⟨g, 0, none⟩) L.length c) Q1.out hlb))
  have B2 := hidA (heap_setCell_same (i := 0) Q1.out (.slice (some ⟨g, 0, none⟩) L.length c))
  have A2 := hidA (A1.out.fra (own_set A1.out.row Q1.out (by decide)) (FrA.box (v' := .slice (some ⟨g, 0, none⟩) L.length c) Q1.out hlb))
  obtain ⟨w2, hw2⟩ : ∃ v, v = w1.setCell ⟨lb, 0, none⟩ (.slice (some ⟨g, 0, none⟩) L.length c) := ⟨_, rfl⟩
  have m0 : w2.cell? ⟨tb, 0, none⟩ = some (.int .i64 (salOf rs x)) := by rw [hw2, World.cell?_setCell_far _ _ _ _ (Ne.symm hne)]; exact d0
  have m1 : w2.cell? ⟨tb, 1, none⟩ = some (.slice a1 (recA x.tags).length b1) := by rw [hw2, World.cell?_setCell_far _ _ _ _ (Ne.symm hne)]; exact d1
  have m2 : w2.cell? ⟨tb, 2, none⟩ = some (.int .i64 x.rule) := by rw [hw2, World.cell?_setCell_far _ _ _ _ (Ne.symm hne)]; exact d2
  have m3 : w2.cell? ⟨tb, 3, none⟩ = some (.slice a2 x.tags.length b2) := by rw [hw2, World.cell?_setCell_far _ _ _ _ (Ne.symm hne)]; exact d3
  rw [← hw2] at F2 B2 A2 ⊢
  clear hw2 d0 d1 d2 d3 k1 f1 A1 Q1 F1
  go_wp2_with fail
  go_ret
  exact ⟨rfl, ⟨_, c, by simpa using B2.out, A2.out⟩, F2.out⟩
end Go.Proofs.YtofflfaineodmaaGreat

namespace Go.Proofs.YtofflfaineodmaaGreat
open Go.RowKit
attribute [local go_sem ↓] Go.wp_at_zero Go.wp_at_succ

theorem gn_left {L M : List EnX} {k : Nat} (h : k < L.length) : gn (L ++ M) k = gn L k := by
  unfold gn
  rw [List.getElem?_append_left h]
theorem fn_left {L M : List EnX} {k : Nat} (h : k < L.length) : fn (L ++ M) k = fn L k := by
  unfold fn
  rw [gn_left h]
theorem heap_left {rs : List Ru} {L M : List EnX} (h : HeapF (befI rs) (fn L) L.length) : HeapF (befI rs) (fn (L ++ M)) L.length := fun k hk h0 => by
  rw [fn_left hk, fn_left (by have := par_lt h0; omega)]
  exact h k hk h0
theorem heap_back {rs : List Ru} {L M : List EnX} (h : HeapF (befI rs) (fn (L ++ M)) L.length) : HeapF (befI rs) (fn L) L.length := fun k hk h0 => by
  have := h k hk h0
  rw [fn_left hk, fn_left (by have := par_lt h0; omega)] at this
  exact this
theorem AgB.same {rs : List Ru} {w' : World} {base lb : Nat} {L : List EnX} {a : Option Addr} {c : Nat} (hb : w'.heap[lb]? = some (.cells #[.slice a L.length c] 62 (0, 0))) (h : AgO rs w' base a c L) : AgB rs w' base lb L := ⟨a, c, hb, h⟩
theorem AgB.bel {rs : List Ru} {w w' : World} {base lb : Nat} {L : List EnX} (h : AgB rs w base lb L) (hb : Below w.heap.size w w') : AgB rs w' base lb L := by
  obtain ⟨a, c, h1, h2⟩ := h
  exact ⟨a, c, (hb.block _ (lt_of_block' h1)).trans h1, h2.bel hb⟩
set_option maxRecDepth 100000 in
set_option maxHeartbeats 3200000 in
theorem heapPush_any (rs : List Ru) (L : List EnX) (base lb : Nat) (x : In) (a1 a2 : Option Addr) (c1 c2 : Nat) (w : World) (h : AgB rs w base lb L) (hh : HeapF (befI rs) (fn L) L.length) (hx : EnP rs w base (x, .slice a1 (recA x.tags).length c1, .slice a2 x.tags.length c2)) (hlb : base ≤ lb) (hl : L.length ≤ 1000000) :
    Calls Tryz.prog 25 #[agI lb, .iface 66 (enV rs x a1 c1 a2 c2)] w fun e w' => (∃ v, e = .returned v) ∧ (∃ L', AgB rs w' base lb L' ∧ L'.Perm (L ++ [(x, .slice a1 (recA x.tags).length c1, .slice a2 x.tags.length c2)]) ∧ HeapF (befI rs) (fn L') L'.length) ∧ FrA base w w' := by
  have HPU := hidA (agPush_any rs L base lb x a1 a2 c1 c2 w h hx hlb (by omega))
  have hmP := methPush lb
  obtain ⟨y, hy⟩ : ∃ y : EnX, y = (x, .slice a1 (recA x.tags).length c1, .slice a2 x.tags.length c2) := ⟨_, rfl⟩
  rw [← hy] at HPU ⊢
  have HH := hidA (heap_left (M := [y]) hh)
  have hlw : lb < w.heap.size := by obtain ⟨_, _, h1, _⟩ := h; exact lt_of_block' h1
  obtain ⟨ev, hev⟩ : ∃ v, v = enV rs x a1 c1 a2 c2 := ⟨_, rfl⟩
  rw [← hev] at HPU ⊢
  unfold agI
  clear hh hx hy hev h
  go_enter Tryz.func25, Tryz.ntmps25
  go_wp2_with fail
  refine HPU.out.mono ?_
  rintro e w1 ⟨⟨v1, rfl⟩, ⟨a, c, hbx, hA⟩, hf⟩
  have F1 := hidA hf
  have A1 := hidA hA
  have B1 := hidA hbx
  have hlen : (L ++ [y]).length = L.length + 1 := by simp
  have hmL := methLen hbx
  rw [hlen] at hmL
  have HUP := hidA (up_any rs (L ++ [y]) a c base lb L.length w1 hA hbx (by rw [hlen]; exact HH.out.snoc) (by rw [hlen]; omega) (by rw [hlen]; omega))
  unfold agI at HUP
  have hs1 := hf.bel.size
  have z3 : ((L.length + 1 : Nat) : Int) - 1 = (L.length : Int) := by omega
  clear hbx hA hf HPU hmP
  go_wp2_with fail
  refine (agLen_any a (L.length + 1) c w1).mono ?_
  rintro e w2 ⟨rfl, rfl⟩
  clear hmL
  go_wp2_with fail
  refine HUP.out.mono ?_
  rintro e w3 ⟨⟨v3, rfl⟩, L', hA3, hp3, hh3, hm3⟩
  have A3 := hidA hA3
  have B3 := hidA (box_mko A1.out rfl B1.out hm3)
  have F3 := hidA (F1.out.trans (FrA.mko A1.out rfl hm3 (by omega)))
  have P3 := hidA hp3
  have HL3 := hidA hp3.length_eq
  have H3 := hidA hh3
  clear hA3 hp3 hh3 hm3 HUP
  go_wp2_with fail
  go_end0
  exact ⟨⟨_, rfl⟩, ⟨L', ⟨a, c, by rw [HL3.out]; exact B3.out, A3.out⟩, P3.out, by rw [HL3.out]; exact H3.out⟩, F3.out⟩
set_option maxRecDepth 100000 in
set_option maxHeartbeats 3200000 in
theorem heapPop_any (rs : List Ru) (L : List EnX) (n base lb : Nat) (w : World) (h : AgB rs w base lb L) (hn : L.length = n + 1) (hh : HeapF (befI rs) (fn L) L.length) (hlb : base ≤ lb) (hl : L.length ≤ 1000000) :
    Calls Tryz.prog 52 #[agI lb] w fun e w' => ∃ x L', e = .returned (.iface 66 (enAgg rs x)) ∧ AgB rs w' base lb L' ∧ L'.length = n ∧ (L' ++ [x]).Perm L ∧ x = gn L 0 ∧ HeapF (befI rs) (fn L') n ∧ FrA base w w' := by
  obtain ⟨a, c, hbx, hA⟩ := h
  obtain ⟨x0, hx0⟩ : ∃ x, L[0]? = some x := ⟨L[0]'(by omega), by simp⟩
  obtain ⟨xn, hxn⟩ : ∃ x, L[n]? = some x := ⟨L[n]'(by omega), by simp⟩
  have hlw : lb < w.heap.size := lt_of_block' hbx
  have hbw : base ≤ w.heap.size := by omega
  have HSW := hidA (agSwap_any rs L a c base 0 n x0 xn w hA hx0 hxn)
  have hmL := methLen hbx
  have hmS := methSwap hbx
  have A0 := hidA hA
  have B0 := hidA hbx
  have G0 := hidA (gn_at hx0)
  have HD := hidA (show DownF (befI rs) (fn (swapL L 0 n x0 xn)) n 0 by rw [fn_swap hx0 hxn]; rw [hn] at hh; exact DownF.start hh)
  have HG := hidA (show gn (swapL L 0 n x0 xn) n = x0 by
    rw [gn_swap hx0 hxn]
    unfold swapF
    by_cases e : n = 0
    · subst e
      rw [if_pos rfl]
      exact gn_at hx0
    · rw [if_neg e, if_pos rfl]
      exact gn_at hx0)
  have HP0 := hidA (swapL_perm hx0 hxn)
  have z3 : ((n + 1 : Nat) : Int) - 1 = (n : Int) := by omega
  have HN := hidA hn
  rw [hn] at hmL hmS HSW
  clear hx0 hxn hbx hA hh
  unfold agI
  go_enter Tryz.func52, Tryz.ntmps52
  go_wp2_with fail
  refine (agLen_any a (n + 1) c w).mono ?_
  rintro e w1 ⟨rfl, rfl⟩
  clear hmL
  go_wp2_with fail
  refine HSW.out.mono ?_
  rintro e w2 ⟨⟨v2, rfl⟩, hA2, hm2⟩
  have M2 := hidA hm2
  have B2 := hidA (box_mko A0.out HN.out (by rw [← HN.out]; exact B0.out) hm2)
  have F2 := hidA (FrA.mko A0.out HN.out hm2 hbw)
  have hl2 : (swapL L 0 n x0 xn).length = n + 1 := by rw [swapL_len]; exact HN.out
  have A2 := hidA hA2
  have HDN := hidA (down_any rs (swapL L 0 n x0 xn) a c base lb n w2 hA2 (by rw [hl2]; exact B2.out) HD.out (by omega) (by omega))
  unfold agI at HDN
  have hs2 := hm2.rest.size
  clear hA2 hm2 HSW hmS HD
  go_wp2_with fail
  refine HDN.out.mono ?_
  rintro e w3 ⟨⟨v3, rfl⟩, L3, hA3, hp3, hh3, hg3, hm3⟩
  have hl3 : L3.length = n + 1 := hp3.length_eq.trans hl2
  have hsp : L3 = L3.take n ++ [x0] := by
    have e1 : L3[n]? = some x0 := by
      have e2 : gn L3 n = x0 := hg3.trans HG.out
      have e3 : L3[n]? = some (L3[n]'(by omega)) := List.getElem?_eq_getElem _
      rw [gn_at e3] at e2
      rw [e3, e2]
    have e4 := List.take_add_one (l := L3) (i := n)
    rw [e1] at e4
    have e5 : L3.take (n + 1) = L3 := List.take_of_length_le (by omega)
    rw [e5] at e4
    exact e4
  obtain ⟨T, hT⟩ : ∃ T, T = L3.take n := ⟨_, rfl⟩
  rw [← hT] at hsp
  have hTl : T.length = n := by rw [hT, List.length_take]; omega
  subst hsp
  rw [hl2] at hm3
  have B3 := hidA (box_mko A2.out hl2 B2.out hm3)
  have F3 := hidA (F2.out.trans (FrA.mko A2.out hl2 hm3 (by omega)))
  have P3 := hidA (hp3.trans HP0.out)
  have H3 := hidA (show HeapF (befI rs) (fn T) n by rw [← hTl] at hh3 ⊢; exact heap_back hh3)
  have hmP := methPop lb
  have HPO := hidA (agPop_any rs T x0 base lb w3 ⟨a, c, by rw [List.length_append, hTl]; exact B3.out, hA3⟩ hlb (by omega))
  have HTL := hidA hTl
  clear hA3 hp3 hh3 hg3 hm3 HDN hl3 hT hTl hl2
  go_wp2_with fail
  refine HPO.out.mono ?_
  rintro e w4 ⟨rfl, hB4, hf4⟩
  have B4 := hidA hB4
  have F4 := hidA (F3.out.trans hf4)
  clear hB4 hf4 HPO hmP
  go_wp2_with fail
  go_ret
  exact ⟨x0, T, rfl, B4.out, HTL.out, P3.out, G0.out.symm, H3.out, F4.out⟩
end Go.Proofs.YtofflfaineodmaaGreat

namespace Go.Proofs.YtofflfaineodmaaGreat
open Go.RowKit
attribute [local go_sem ↓] Go.wp_at_zero Go.wp_at_succ

/-- The instantiations in the order of the agenda. -/
def agS (rs : List Ru) (xs : List In) : List In := xs.mergeSort (fun a b => !befI rs b a)
theorem agS_perm (rs : List Ru) (xs : List In) : (agS rs xs).Perm xs := List.mergeSort_perm xs _
theorem agS_sorted (rs : List Ru) (xs : List In) : (agS rs xs).Pairwise (fun a b => befI rs b a = false) := by
  have hs := bef_strict rs
  have h := List.pairwise_mergeSort (le := fun a b => !befI rs b a) (fun a b c h1 h2 => by simp at h1 h2 ⊢; exact hs.le_trans h1 h2) (fun a b => by
    cases hb : befI rs b a with
    | false => simp
    | true => simp [hs.asym b a hb]) xs
  exact List.Pairwise.imp (fun h => by simpa using h) h
theorem agS_eq {rs : List Ru} {xs out : List In} (hp : out.Perm xs) (hs : out.Pairwise (fun a b => befI rs b a = false)) : out = agS rs xs :=
  sorted_same (bef_strict rs) hp (agS_perm rs xs) hs (agS_sorted rs xs)
def agOk (rs : List Ru) (xs : List In) : Bool := decide ((chk rs).1 = 0) && (decide (xs.length ≤ 1000) && xs.all (placedI rs))
def agM (rs : List Ru) (xs : List In) : List In := if agOk rs xs = true then agS rs xs else []
def inIt (x : In) : It := ⟨x.rule, x.tags⟩
def AgPost (L : List It) (w : World) (e : Ending) (w' : World) : Prop := (∃ a c M, e = .returned (.slice a (List.length M) c) ∧ Iw w' w.heap.size w.heap.size a c M ∧ M.map Prod.fst = L ∧ M.Pairwise (fun x y => Apart x.2 y.2)) ∧ Below w.heap.size w w'
theorem AgPost.nil {L : List It} {w w' : World} (hL : L = []) (hb : Below w.heap.size w w') : AgPost L w (.returned (.slice none 0 0)) w' := by
  subst hL
  exact ⟨⟨none, 0, [], rfl, Iw.nil _ _ _, rfl, List.Pairwise.nil⟩, hb⟩
theorem AgB.put {rs : List Ru} {w : World} {base lb tb o : Nat} {v : Value} {L : List EnX} {c : Array Value} {fr : Nat × Nat} (h : AgB rs w base lb L) (hq : w.heap[tb]? = some (.cells c 47 fr)) : AgB rs (w.setCell ⟨tb, o, none⟩ v) base lb L := by
  obtain ⟨a, cc, h1, h2⟩ := h
  refine ⟨a, cc, ?_, own_set h2.row hq (by decide), fun x hx => (h2.all x hx).same (fun k c' hk => ?_)⟩
  · rw [Below.heap_setCell _ _ _ _ (fun e => by simp only at e; subst e; exact own_far hq h1 (by decide))]
    exact h1
  · exact Below.heap_setCell _ _ _ _ (fun e => by simp only at e; subst e; exact own_far hq hk (by decide))
set_option maxRecDepth 100000 in
set_option maxHeartbeats 3200000 in
theorem next_any (rs : List Ru) (L : List EnX) (n base lb : Nat) (w : World) (h : AgB rs w base lb L) (hn : L.length = n + 1) (hh : HeapF (befI rs) (fn L) L.length) (hlb : base ≤ lb) (hl : L.length ≤ 1000000) :
    Calls Tryz.prog 28 #[.pointer (some ⟨lb, 0, none⟩)] w fun e w' => ∃ x L', e = .returned (.agg #[.int .i64 x.1.rule, x.2.2]) ∧ AgB rs w' base lb L' ∧ L'.length = n ∧ (L' ++ [x]).Perm L ∧ x = gn L 0 ∧ HeapF (befI rs) (fn L') n ∧ FrA base w w' := by
  obtain ⟨x0, hx0⟩ : ∃ x, L[0]? = some x := ⟨L[0]'(by omega), by simp⟩
  have hlw : lb < w.heap.size := by obtain ⟨_, _, h1, _⟩ := h; exact lt_of_block' h1
  have hE : EnP rs w base x0 := by obtain ⟨_, _, _, h2⟩ := h; exact h2.all x0 (List.mem_of_getElem? hx0)
  obtain ⟨a1, b1, e1⟩ := hE.r
  obtain ⟨a2, b2, e2⟩ := hE.t
  have E2 := hidA e2
  have HG := hidA (gn_at hx0)
  have HB := hidA h
  have HH := hidA hh
  have hta := ta_any (enAgg rs x0)
  have hfd : ∀ w : World, (Instr.field 66 (enAgg rs x0) 2).run Tryz.prog w = .ok (.agg #[.int .i64 x0.1.rule, .slice a2 x0.1.tags.length b2]) w := fun _ => by unfold enAgg; rw [e1, e2]; kernel_rfl
  clear h hh hx0 hE e1 e2
  go_enter Tryz.func28, Tryz.ntmps28
  go_upto_region 1 with fail
  refine lift_alloc ?_
  intro w1 hW1 hq1
  obtain ⟨tb, htb⟩ : ∃ b, b = w.heap.size := ⟨_, rfl⟩
  rw [← htb] at hq1 ⊢
  have Q1 := hidA hq1
  have HPO := hidA (heapPop_any rs L n base lb w1 (HB.out.bel hW1) hn HH.out hlb hl)
  unfold agI at HPO
  have F1 := hidA (FrA.of_below (base := base) hW1 (by omega))
  have htw : w.heap.size ≤ tb := by omega
  clear hW1 hq1 htb
  go_wp2_with fail
  refine HPO.out.mono ?_
  rintro e w2 ⟨x, L', rfl, hB2, hl2, hp2, hx2, hh2, hf2⟩
  obtain rfl : x = x0 := hx2.trans HG.out
  have q2 := hf2.cel _ _ _ _ Q1.out (by decide) (by decide)
  have Q2 := hidA q2
  have B2 := hidA hB2
  have P2 := hidA hp2
  have H2 := hidA hh2
  have F2 := hidA (F1.out.trans hf2)
  have L2 := hidA hl2
  have k0 : w2.cell? ⟨tb, 0, none⟩ = some (.int .i64 0) := by simp [World.cell?, q2]
  have k1 : w2.cell? ⟨tb, 1, none⟩ = some (.slice none 0 0) := by simp [World.cell?, q2]
  have f0 : w2.frozen? ⟨tb, 0, none⟩ = false := by simp [World.frozen?, q2]
  have f1 : w2.frozen? ⟨tb, 1, none⟩ = false := by simp [World.frozen?, q2]
  clear hB2 hl2 hp2 hx2 hh2 hf2 HPO q2
  go_wp2_with fail
  have B3 := hidA (AgB.put (o := 0) (v := .int .i64 x.1.rule) B2.out Q2.out)
  have Q3 := hidA (heap_setCell_same (i := 0) Q2.out (.int .i64 x.1.rule))
  have B4 := hidA (AgB.put (o := 1) (v := .slice a2 x.1.tags.length b2) B3.out Q3.out)
  have F4 := hidA (show FrA base w ((w2.setCell ⟨tb, 0, none⟩ (.int .i64 x.1.rule)).setCell ⟨tb, 1, none⟩ (.slice a2 x.1.tags.length b2)) from ⟨(F2.out.bel.setCell (by simp; omega) _).setCell (by simp; omega) _, fun k c t fr hk h1 h2 => by
    have hkl := lt_of_block' hk
    rw [Below.heap_setCell _ _ _ _ (by simp; omega), Below.heap_setCell _ _ _ _ (by simp; omega)]
    exact F2.out.cel k c t fr hk h1 h2⟩)
  refine bodyPost_ret (v := .agg #[.int .i64 x.1.rule, .slice a2 x.1.tags.length b2]) (by simp [results, Tryz.results28, go_sem, k0, k1]) rfl ?_
  exact ⟨x, L', by rw [E2.out], B4.out, L2.out, P2.out, HG.out.symm, H2.out, F4.out⟩
end Go.Proofs.YtofflfaineodmaaGreat
