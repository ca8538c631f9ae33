/-
  OUR OWN TEXT. The model's draws: a fact that suits a pattern (written by genrn7.py).
-/
import Derived.Test.YtgamdkokmkagaaaJg
import Derived.Deep.DeepCutAuto
namespace Go.Proofs.Ytgamdkokmkagaaa
open Go.RowKit
attribute [local go_sem ↓] Go.wp_at_zero Go.wp_at_succ

theorem infoVF : (Try.prog.info? 125).map (fun i => (i.zero, i.size, i.bytes)) = some (some (.agg #[.int .i64 0, .int .i64 0, .string ⟨#[]⟩]), 3, 32) := by kernel_rfl
/-- A fact in its box, its slots an owned row. -/
def FB (w : World) (fb B : Nat) (tag : Int) (cls : ByteArray) (a : Option Addr) (c : Nat) (vs : List V) : Prop :=
  w.heap[fb]? = some (.cells #[.int .i64 tag, .string cls, .slice a vs.length c] 117 (0, 0)) ∧ w.ownsRow B 125 3 (.slice a vs.length c) vs.length (vs.flatMap V.cells) ∧ ∀ v ∈ vs, VSm v
section
variable {w w' : World} {fb B : Nat} {tag : Int} {cls : ByteArray} {a : Option Addr} {c : Nat} {vs : List V}
theorem FB.rs {g : Nat} (h : FB w fb B tag cls a c vs) (hr : Rs g w w') (hf : fb ≠ g) (hg : g < B) : FB w' fb B tag cls a c vs := ⟨block_rs hr h.1 hf, own_rs h.2.1 hr hg, h.2.2⟩
theorem FB.bel (h : FB w fb B tag cls a c vs) (hb : Below w.heap.size w w') : FB w' fb B tag cls a c vs := ⟨(hb.block fb (lt_of_block' h.1)).trans h.1, own_bel h.2.1 hb, h.2.2⟩
theorem FB.turned {d : Nat} (h : FB w fb B tag cls a c vs) (ht : Turned w w' d) (hd : d ≠ fb) (ho : ∀ k, (Value.slice a vs.length c).ownBlock = some k → k ≠ d) : FB w' fb B tag cls a c vs :=
  ⟨(ht.block fb (Ne.symm hd)).trans h.1, owns_of_block h.2.1 (fun k hk => ht.block k (ho k hk)), h.2.2⟩
theorem FB.cells (h : FB w fb B tag cls a c vs) : w.cell? ⟨fb, 0, none⟩ = some (.int .i64 tag) ∧ w.cell? ⟨fb, 1, none⟩ = some (.string cls) ∧ w.cell? ⟨fb, 2, none⟩ = some (.slice a vs.length c) := by
  refine ⟨?_, ?_, ?_⟩ <;> simp [World.cell?, h.1]
end
theorem f_put {w wt wa w3 : World} {fb B g : Nat} {tag : Int} {cls : ByteArray} {a a3 : Option Addr} {c c3 : Nat} {vs : List V} {v : V} (h : FB wt fb B tag cls a c vs) (hv : VSm v) (hR : Rs g w wt) (hwa : Below wt.heap.size wt wa) (ho : w3.ownsRow B 125 3 (.slice a3 (vs.length + 1) c3) (vs.length + 1) (vs.flatMap V.cells ++ V.cells v)) (hg : wa.grownBy w3 (Value.slice a vs.length c).ownBlock) (hB : w.heap.size ≤ B) (hfb : w.heap.size ≤ fb) (hgw : g < w.heap.size) :
    FB (w3.setCell ⟨fb, 2, none⟩ (.slice a3 (vs.length + 1) c3)) fb B tag cls a3 c3 (vs ++ [v]) ∧ Rs g w (w3.setCell ⟨fb, 2, none⟩ (.slice a3 (vs.length + 1) c3)) := by
  have hA := h.bel hwa
  have e3 := box_grown hA.1 hg (fun k hk => own_type hA.2.1 hk) (by decide)
  have hr3 : Rs g w w3 := (hR.bel hwa).grown hg (fun k hk => Nat.le_trans hB (hA.2.1.lt k hk).1) hgw
  refine ⟨⟨?_, ?_, ?_⟩, hr3.setOwn hfb hgw⟩
  · have := heap_setCell_same (i := 2) e3 (.slice a3 (vs.length + 1) c3)
    simpa using this
  · have := own_set (o := 2) (x := .slice a3 (vs.length + 1) c3) ho e3 (by decide)
    simpa using this
  · intro x hx
    rcases List.mem_append.1 hx with h' | h'
    · exact h.2.2 x h'
    · simp at h'
      exact h' ▸ hv
theorem f_cells {wt wa w3 : World} {fb B : Nat} {tag : Int} {cls : ByteArray} {a : Option Addr} {c : Nat} {vs : List V} (h : FB wt fb B tag cls a c vs) (hwa : Below wt.heap.size wt wa) (hg : wa.grownBy w3 (Value.slice a vs.length c).ownBlock) :
    w3.cell? ⟨fb, 2, none⟩ = some (.slice a vs.length c) ∧ w3.frozen? ⟨fb, 2, none⟩ = false := by
  have hA := h.bel hwa
  have e3 := box_grown hA.1 hg (fun k hk => own_type hA.2.1 hk) (by decide)
  exact ⟨by simp [World.cell?, e3], by simp [World.frozen?, e3]⟩
theorem term_at {w : World} {base : Nat} {ta : Option Addr} {tc : Nat} {ts : List Tm} (h : w.ownsRow base 152 6 (.slice ta ts.length tc) ts.length (ts.flatMap tmCells)) {i : Nat} {t : Tm} (hi : ts[i]? = some t) :
    ∃ k, ta = some ⟨k, 0, none⟩ ∧ base ≤ k ∧ k < w.heap.size ∧ w.cell? ⟨k, i * 6, none⟩ = some (.int .i64 t.kind) ∧ w.cell? ⟨k, i * 6 + 1, none⟩ = some (.int .i64 t.op) ∧ w.cell? ⟨k, i * 6 + 2, none⟩ = some (.string t.var) ∧ w.cell? ⟨k, i * 6 + 3, none⟩ = some (.int .i64 t.val.kind) ∧ w.cell? ⟨k, i * 6 + 4, none⟩ = some (.int .i64 t.val.num) ∧ w.cell? ⟨k, i * 6 + 5, none⟩ = some (.string t.val.sym) := by
  have key := fun j u (hj : (tmCells t)[j]? = some u) => owns_cell h (flat_gen (cells := tmCells) (m := 6) (fun _ => rfl) ts i t j u hi hj)
  obtain ⟨k, rfl, hb, h0, _⟩ := key 0 _ rfl
  obtain ⟨k1, e1, _, h1, _⟩ := key 1 _ rfl
  obtain ⟨k2, e2, _, h2, _⟩ := key 2 _ rfl
  obtain ⟨k3, e3, _, h3, _⟩ := key 3 _ rfl
  obtain ⟨k4, e4, _, h4, _⟩ := key 4 _ rfl
  obtain ⟨k5, e5, _, h5, _⟩ := key 5 _ rfl
  cases e1
  cases e2
  cases e3
  cases e4
  cases e5
  exact ⟨k, rfl, hb, World.block_lt_of_cell? w ⟨k, _, none⟩ h0, h0, h1, h2, h3, h4, h5⟩
theorem val_at {w : World} {base : Nat} {a : Option Addr} {c : Nat} {vs : List V} (h : w.ownsRow base 125 3 (.slice a vs.length c) vs.length (vs.flatMap V.cells)) {i : Nat} {v : V} (hi : vs[i]? = some v) :
    ∃ k, a = some ⟨k, 0, none⟩ ∧ base ≤ k ∧ k < w.heap.size ∧ w.cell? ⟨k, i * 3, none⟩ = some (.int .i64 v.kind) ∧ w.cell? ⟨k, i * 3 + 1, none⟩ = some (.int .i64 v.num) ∧ w.cell? ⟨k, i * 3 + 2, none⟩ = some (.string v.sym) := by
  have key := fun j u (hj : (V.cells v)[j]? = some u) => owns_cell h (flat_gen (cells := V.cells) (m := 3) (fun _ => rfl) vs i v j u hi hj)
  obtain ⟨k, rfl, hb, h0, _⟩ := key 0 _ rfl
  obtain ⟨k1, e1, _, h1, _⟩ := key 1 _ rfl
  obtain ⟨k2, e2, _, h2, _⟩ := key 2 _ rfl
  cases e1
  cases e2
  exact ⟨k, rfl, hb, World.block_lt_of_cell? w ⟨k, _, none⟩ h0, h0, h1, h2⟩
def fV (tag : Int) (cls : ByteArray) (x : Value) : Value := .agg #[.int .i64 tag, .string cls, x]
theorem infoFS : (Try.prog.info? 117).map (·.size) = some 3 := by kernel_rfl

set_option maxRecDepth 100000 in
set_option maxHeartbeats 6400000 in
theorem l3Fact_any (g base : Nat) (x : PtV) (tag : Int) (w : World) (h : Rdr w g) (hx : PtX w base x) :
    Calls Try.prog 118 #[.pointer (some ⟨g, 0, none⟩), .agg #[.bool x.1.neg, .string x.1.cls, x.2], .int .i64 tag] w fun e w' => ∃ sa sc vs, e = .returned (fV tag x.1.cls (.slice sa vs.length sc)) ∧ vs.length ≤ 3 ∧ w'.ownsRow w.heap.size 125 3 (.slice sa vs.length sc) vs.length ((vs : List V).flatMap V.cells) ∧ (∀ v ∈ vs, VSm v) ∧ Rs g w w' := by
  obtain ⟨⟨neg, cls, ts⟩, xv⟩ := x
  obtain ⟨⟨ta, tc, hxv⟩, hown, hcl, ht3, hsm⟩ := hx
  dsimp only at hxv hown hcl ht3 hsm ⊢
  subst hxv
  have H := hidR h
  have HT := hidR hown
  have HSM := hidR hsm
  have HRD := hidR h
  have hlt := h.lt
  clear h hown hsm
  have HA0 := hidR (fun o1 o2 o3 => (((Below.refl _ _).alloc (Nat.le_refl _) o1).alloc (by simp) o2).alloc (by simp; omega) o3 : ∀ o1 o2 o3, Below w.heap.size w (((w.alloc o1).alloc o2).alloc o3))
  have HRB := hidR (fun o1 o2 o3 => ((Below.refl ((w.alloc o1).alloc o2).heap.size ((w.alloc o1).alloc o2)).alloc (Nat.le_refl _) o3).block (w.heap.size + 1) (by simp) |>.trans (show ((w.alloc o1).alloc o2).heap[w.heap.size + 1]? = some o2 from by have := heap_alloc_new (w.alloc o1) o2; simpa using this))
  have HFB := hidR (fun o1 o2 o3 => (show (((w.alloc o1).alloc o2).alloc o3).heap[w.heap.size + 1 + 1]? = some o3 from by have := heap_alloc_new ((w.alloc o1).alloc o2) o3; simpa using this))
  go_enter Try.func118, Try.ntmps118
  go_wp2_with fail
  go_loopw [18] (fun iv wr => ∃ (i : Nat) (a : Option Addr) (c : Nat) (vs : List V), iv = .int .i64 (i : Int) ∧ i ≤ ts.length ∧ vs.length = i ∧ FB wr (w.heap.size + 1 + 1) w.heap.size tag cls a c vs ∧ wr.heap[w.heap.size + 1]? = some (.cells #[.int .i64 0, .string ⟨#[]⟩, .slice none 0 0] 117 (0, 0)) ∧ Rs g w wr) (fun iv _ => ts.length - (intOf iv).toNat)
  case atStart => exact ⟨0, none, 0, [], rfl, by omega, rfl, ⟨HFB.out _ _ _, World.ownsRow_nil _ _ _ _, fun v hv => by simp at hv⟩, HRB.out _ _ _, Rs.of H.out (HA0.out _ _ _)⟩
  case round =>
    obtain ⟨i, a, c, vs, rfl, hi, hvl, hFB, hRB, hR⟩ := hrel
    have HVL := hidR hvl
    have hvl3 : vs.length ≤ 3 := by omega
    clear hvl
    have HF := hidR hFB
    have HRb := hidR hRB
    have HR := hidR hR
    have hsz := hR.1.rest.size
    have hfw : w.heap.size + 1 + 1 < wr.heap.size := lt_of_block' hFB.1
    clear hFB hRB hR HA0 HRB HFB H
    by_cases hit : i < ts.length
    · obtain ⟨t, hti⟩ : ∃ t, ts[i]? = some t := ⟨ts[i], by simp [hit]⟩
      obtain ⟨tk, rfl, htk, htkl, c0, c1, c2, c3, c4, c5⟩ := term_at (own_rsT HT.out HR.out HRD.out (by decide)) hti
      have htv : VSm t.val := (HSM.out t (List.mem_of_getElem? hti)).2
      have hiI : (i : Int) < (ts.length : Int) := by omega
      have HAl := hidR (fun o => (Below.refl _ _).alloc (Nat.le_refl _) o : ∀ o, Below wr.heap.size wr (wr.alloc o))
      have HRa := hidR (fun o => HR.out.2.bel (HAl.out o))
      clear hti
      go_wp2_with fail
      refine (l1Val_any g _ (HRa.out _)).mono ?_
      rintro e w1 ⟨v1, hv1, rfl, hr1⟩
      have HTB := hidR (block_rs hr1 (heap_alloc_new _ _) (by omega))
      have hR1 := hidR ((HR.out.bel (HAl.out _)).trans hr1)
      have HF1 := hidR ((HF.out.bel (HAl.out _)).rs hr1 (by omega) (by omega))
      have HRb1 := hidR (block_rs hr1 (((HAl.out _).block _ (by omega)).trans HRb.out) (by omega))
      have hs1 : wr.heap.size < w1.heap.size := lt_of_block' HTB.out
      obtain ⟨t0, t1, t2, t3, t4, t5⟩ := cells6 HTB.out
      have HAm := hidR (fun o => (Below.refl _ _).alloc (Nat.le_refl _) o : ∀ o, Below w1.heap.size w1 (w1.alloc o))
      have HRm := hidR (fun o => hR1.out.2.bel (HAm.out o))
      have HOL1 := hidR (fun k (hk : (Value.slice a vs.length c).ownBlock = some k) => (HF.out.2.1.lt k hk).2)
      clear hr1 c0 c1 c2 c3 c4 c5 t0 t1 t2 t3 t4 t5 HAl HRa HF HR HRb
      unfold vV
      go_upto_region 6 with fail
      refine lift_alloc ?_
      intro w0 hW0 hvb0'
      have hvb0 := hidR hvb0'
      have HF0 := hidR (HF1.out.bel hW0)
      have hR0 := hidR (hR1.out.bel hW0)
      have HRb0 := hidR ((hW0.block _ (lt_of_block' HRb1.out)).trans HRb1.out)
      have HTB0 := hidR ((hW0.block _ (lt_of_block' HTB.out)).trans HTB.out)
      have hw0 := hW0.size
      obtain ⟨t0, t1, t2, t3, t4, t5⟩ := cells6 HTB0.out
      clear hW0 hvb0' HF1 hR1 HRb1 HTB HAm HRm
      have HOL := hidR (fun k (hk : (Value.slice a vs.length c).ownBlock = some k) => HOL1.out k hk)
      by_cases hk1 : t.kind = 1
      · have hk2 : ¬ t.kind = 2 := by omega
        rw [hk1] at t0
        go_wp2_with fail
        refine (next_any g w0 hR0.out.2).mono ?_
        rintro e w2 ⟨n2, hn2, rfl, hr2⟩
        have hvb2 := hidR (block_rs hr2 hvb0.out (by omega))
        have HF2 := hidR (HF0.out.rs hr2 (by omega) (by omega))
        have hR2 := hidR (hR0.out.trans hr2)
        have HRb2 := hidR (block_rs hr2 HRb0.out (by omega))
        obtain ⟨t0, t1, t2, t3, t4, t5⟩ : w2.cell? ⟨wr.heap.size, 0, none⟩ = some (.int .i64 t.kind) ∧ w2.cell? ⟨wr.heap.size, 1, none⟩ = some (.int .i64 t.op) ∧ w2.cell? ⟨wr.heap.size, 2, none⟩ = some (.string t.var) ∧ w2.cell? ⟨wr.heap.size, 3, none⟩ = some (.int .i64 t.val.kind) ∧ w2.cell? ⟨wr.heap.size, 4, none⟩ = some (.int .i64 t.val.num) ∧ w2.cell? ⟨wr.heap.size, 5, none⟩ = some (.string t.val.sym) := cells6 (block_rs hr2 HTB0.out (by omega))
        have hw2 := hr2.1.rest.size
        clear hr2 HF0 hvb0 hR0 HRb0 HTB0 t1 t2
        rw [hk1] at t0
        have HT0 := hidR t0
        by_cases hn4 : n2 % 4 = 0
        · have hn4' : ¬ (0 : Int) < (n2 : Int) % 4 := by omega
          have HFt := hidR HF2.out
          have hRt := hidR hR2.out
          have HRbt := hidR HRb2.out
          obtain ⟨q0, q1, q2⟩ := box3 (v := v1) hvb2.out
          obtain ⟨d0, d1, d2⟩ := HFt.out.cells
          have hst : w.heap.size + 1 + 1 < w2.heap.size := lt_of_block' HFt.out.1
          have hvt : w1.heap.size < w2.heap.size := World.block_lt_of_cell? w2 ⟨w1.heap.size, 0, none⟩ q0
          have HWt := hidR (fun o => (Below.refl _ _).alloc (Nat.le_refl _) o : ∀ o, Below w2.heap.size w2 (w2.alloc o))
          have HOWt := hidR (fun o => own_bel HFt.out.2.1 (HWt.out o))
          go_wp2_with (first | (at_builtin; refine wpList_append_any (by rfl) (.tmp 55) (.tmp 57) 29 (by rfl) w.heap.size 125 _ 3 32 Try.underlying29 infoVF (by rfl) (by omega) _ vs.length _ (by rfl) (HOWt.out _) (some ⟨_, 0, none⟩) 1 1 (by rfl) (V.cells v1) (by rfl) (fun e => by cases e) (news_new _ _ _ _ (by simp)) (V.cells_one v1) (by unfold maxLen; omega) (by omega) (by simp; omega) ?_; intro a3 c3 w3 ho3 hg3 hl3; obtain ⟨k3, z3⟩ := f_cells HFt.out (HWt.out _) hg3.out) | fail)
          obtain ⟨r1, r2⟩ := f_put HFt.out hv1 hRt.out (HWt.out _) ho3.out hg3.out (Nat.le_refl _) (by omega) hlt
          go_roundw
          case rel => exact ⟨i + 1, a3, c3, vs ++ [v1], by go_num, by omega, by simp [HVL.out], r1, (Below.heap_setCell _ _ _ _ (by simp)).trans (box_grown (t' := 125) (((HWt.out _).block _ (by omega)).trans HRbt.out) hg3.out (fun k hk => own_type (HOWt.out _) hk) (by decide)), r2⟩
          case measure => (simp [intOf]; omega)
        · have hn4' : (0 : Int) < (n2 : Int) % 4 := by omega
          go_wp2_with (first | (refine wpList_store_blk (by rfl) 125 (.tmp 10) (.tmp 34) (by rfl) w1.heap.size (V.cells t.val) (by rfl) (by rfl) _ 125 hvb2.out (by rfl) infoVS (V.cells_one _) ?_; intro wt hvt' htt; have tt0 : wt.cell? ⟨wr.heap.size, 0, none⟩ = some (.int .i64 1) := (by rw [htt.out.cell (p := ⟨wr.heap.size, 0, none⟩) (by simp; omega)]; exact HT0.out); have HFt := hidR (HF2.out.turned htt.out (by omega) (fun k hk => by have := (HF2.out.2.1.lt k hk); have := HOL.out k hk; omega)); have hRt := hidR (hR2.out.turned htt.out (by omega) hlt); have HRbt := hidR ((htt.out.block _ (by omega)).trans HRb2.out); obtain ⟨q0, q1, q2⟩ := box3 (v := t.val) hvt'.out; obtain ⟨d0, d1, d2⟩ := HFt.out.cells; have hst : w.heap.size + 1 + 1 < wt.heap.size := lt_of_block' HFt.out.1; have hvt : w1.heap.size < wt.heap.size := World.block_lt_of_cell? wt ⟨w1.heap.size, 0, none⟩ q0; have HWt := hidR (fun o => (Below.refl _ _).alloc (Nat.le_refl _) o : ∀ o, Below wt.heap.size wt (wt.alloc o)); have HOWt := hidR (fun o => own_bel HFt.out.2.1 (HWt.out o)); clear t0 t3 t4 t5 ) | (at_builtin; refine wpList_append_any (by rfl) (.tmp 55) (.tmp 57) 29 (by rfl) w.heap.size 125 _ 3 32 Try.underlying29 infoVF (by rfl) (by omega) _ vs.length _ (by rfl) (HOWt.out _) (some ⟨_, 0, none⟩) 1 1 (by rfl) (V.cells t.val) (by rfl) (fun e => by cases e) (news_new _ _ _ _ (by simp)) (V.cells_one t.val) (by unfold maxLen; omega) (by omega) (by simp; omega) ?_; intro a3 c3 w3 ho3 hg3 hl3; obtain ⟨k3, z3⟩ := f_cells HFt.out (HWt.out _) hg3.out) | fail)
          obtain ⟨r1, r2⟩ := f_put HFt.out htv hRt.out (HWt.out _) ho3.out hg3.out (Nat.le_refl _) (by omega) hlt
          go_roundw
          case rel => exact ⟨i + 1, a3, c3, vs ++ [t.val], by go_num, by omega, by simp [HVL.out], r1, (Below.heap_setCell _ _ _ _ (by simp)).trans (box_grown (t' := 125) (((HWt.out _).block _ (by omega)).trans HRbt.out) hg3.out (fun k hk => own_type (HOWt.out _) hk) (by decide)), r2⟩
          case measure => (simp [intOf]; omega)
      by_cases hk2 : t.kind = 2
      · rw [hk2] at t0
        by_cases hv0 : vs.length = 0
        · obtain rfl : vs = [] := List.eq_nil_of_length_eq_zero hv0
          clear hv0
          obtain ⟨d0, d1, d2⟩ := HF0.out.cells
          have HFt := hidR HF0.out
          have hRt := hidR hR0.out
          have HRbt := hidR HRb0.out
          obtain ⟨q0, q1, q2⟩ := box3 (v := v1) hvb0.out
          obtain ⟨d0, d1, d2⟩ := HFt.out.cells
          have hst : w.heap.size + 1 + 1 < w0.heap.size := lt_of_block' HFt.out.1
          have hvt : w1.heap.size < w0.heap.size := World.block_lt_of_cell? w0 ⟨w1.heap.size, 0, none⟩ q0
          have HWt := hidR (fun o => (Below.refl _ _).alloc (Nat.le_refl _) o : ∀ o, Below w0.heap.size w0 (w0.alloc o))
          have HOWt := hidR (fun o => own_bel HFt.out.2.1 (HWt.out o))
          go_wp2_with (first | (at_builtin; refine wpList_append_any (by rfl) (.tmp 55) (.tmp 57) 29 (by rfl) w.heap.size 125 _ 3 32 Try.underlying29 infoVF (by rfl) (by omega) _ ([] : List V).length _ (by rfl) (HOWt.out _) (some ⟨_, 0, none⟩) 1 1 (by rfl) (V.cells v1) (by rfl) (fun e => by cases e) (news_new _ _ _ _ (by simp)) (V.cells_one v1) (by unfold maxLen; omega) (by omega) (by simp; omega) ?_; intro a3 c3 w3 ho3 hg3 hl3; obtain ⟨k3, z3⟩ := f_cells HFt.out (HWt.out _) hg3.out) | fail)
          obtain ⟨r1, r2⟩ := f_put HFt.out hv1 hRt.out (HWt.out _) ho3.out hg3.out (Nat.le_refl _) (by omega) hlt
          go_roundw
          case rel => exact ⟨i + 1, a3, c3, ([] : List V) ++ [v1], by go_num, by omega, by simp [HVL.out], r1, (Below.heap_setCell _ _ _ _ (by simp)).trans (box_grown (t' := 125) (((HWt.out _).block _ (by omega)).trans HRbt.out) hg3.out (fun k hk => own_type (HOWt.out _) hk) (by decide)), r2⟩
          case measure => (simp [intOf]; omega)
        · have hv0' : (0 : Int) < (vs.length : Int) := by omega
          obtain ⟨d0, d1, d2⟩ := HF0.out.cells
          go_wp2_with fail
          refine (next_any g w0 hR0.out.2).mono ?_
          rintro e w2 ⟨n2, hn2, rfl, hr2⟩
          have hvb2 := hidR (block_rs hr2 hvb0.out (by omega))
          have HF2 := hidR (HF0.out.rs hr2 (by omega) (by omega))
          have hR2 := hidR (hR0.out.trans hr2)
          have HRb2 := hidR (block_rs hr2 HRb0.out (by omega))
          obtain ⟨t0, t1, t2, t3, t4, t5⟩ : w2.cell? ⟨wr.heap.size, 0, none⟩ = some (.int .i64 t.kind) ∧ w2.cell? ⟨wr.heap.size, 1, none⟩ = some (.int .i64 t.op) ∧ w2.cell? ⟨wr.heap.size, 2, none⟩ = some (.string t.var) ∧ w2.cell? ⟨wr.heap.size, 3, none⟩ = some (.int .i64 t.val.kind) ∧ w2.cell? ⟨wr.heap.size, 4, none⟩ = some (.int .i64 t.val.num) ∧ w2.cell? ⟨wr.heap.size, 5, none⟩ = some (.string t.val.sym) := cells6 (block_rs hr2 HTB0.out (by omega))
          have hw2 := hr2.1.rest.size
          clear hr2 HF0 hvb0 hR0 HRb0 HTB0 t1 t2
          rw [hk2] at t0
          have HT0 := hidR t0
          clear d0 d1 d2
          by_cases hn4 : n2 % 2 = 0
          · obtain ⟨vf, hvf⟩ : ∃ v, vs[0]? = some v := ⟨vs[0]'(by omega), by simp⟩
            have hvfs : VSm vf := HF2.out.2.2 vf (List.mem_of_getElem? hvf)
            obtain ⟨e0, e1, e2⟩ := HF2.out.cells
            obtain ⟨sk, hsk, hskb, hskl, s0, s1, s2⟩ := val_at HF2.out.2.1 hvf
            subst hsk
            simp only [Nat.zero_mul, Nat.zero_add] at s0 s1 s2
            go_wp2_with (first | (refine wpList_store_blk (by rfl) 125 (.tmp 10) (.tmp 53) (by rfl) w1.heap.size (V.cells vf) (by rfl) (by rfl) _ 125 hvb2.out (by rfl) infoVS (V.cells_one _) ?_; intro wt hvt' htt; have tt0 : wt.cell? ⟨wr.heap.size, 0, none⟩ = some (.int .i64 2) := (by rw [htt.out.cell (p := ⟨wr.heap.size, 0, none⟩) (by simp; omega)]; exact HT0.out); have HFt := hidR (HF2.out.turned htt.out (by omega) (fun k hk => by have := (HF2.out.2.1.lt k hk); have := HOL.out k hk; omega)); have hRt := hidR (hR2.out.turned htt.out (by omega) hlt); have HRbt := hidR ((htt.out.block _ (by omega)).trans HRb2.out); obtain ⟨q0, q1, q2⟩ := box3 (v := vf) hvt'.out; obtain ⟨d0, d1, d2⟩ := HFt.out.cells; have hst : w.heap.size + 1 + 1 < wt.heap.size := lt_of_block' HFt.out.1; have hvt : w1.heap.size < wt.heap.size := World.block_lt_of_cell? wt ⟨w1.heap.size, 0, none⟩ q0; have HWt := hidR (fun o => (Below.refl _ _).alloc (Nat.le_refl _) o : ∀ o, Below wt.heap.size wt (wt.alloc o)); have HOWt := hidR (fun o => own_bel HFt.out.2.1 (HWt.out o)); clear t0 t3 t4 t5 e0 e1 e2 s0 s1 s2) | (at_builtin; refine wpList_append_any (by rfl) (.tmp 55) (.tmp 57) 29 (by rfl) w.heap.size 125 _ 3 32 Try.underlying29 infoVF (by rfl) (by omega) _ vs.length _ (by rfl) (HOWt.out _) (some ⟨_, 0, none⟩) 1 1 (by rfl) (V.cells vf) (by rfl) (fun e => by cases e) (news_new _ _ _ _ (by simp)) (V.cells_one vf) (by unfold maxLen; omega) (by omega) (by simp; omega) ?_; intro a3 c3 w3 ho3 hg3 hl3; obtain ⟨k3, z3⟩ := f_cells HFt.out (HWt.out _) hg3.out) | fail)
            obtain ⟨r1, r2⟩ := f_put HFt.out hvfs hRt.out (HWt.out _) ho3.out hg3.out (Nat.le_refl _) (by omega) hlt
            go_roundw
            case rel => exact ⟨i + 1, a3, c3, vs ++ [vf], by go_num, by omega, by simp [HVL.out], r1, (Below.heap_setCell _ _ _ _ (by simp)).trans (box_grown (t' := 125) (((HWt.out _).block _ (by omega)).trans HRbt.out) hg3.out (fun k hk => own_type (HOWt.out _) hk) (by decide)), r2⟩
            case measure => (simp [intOf]; omega)
          · have hn4' : ¬ (n2 : Int) % 2 = 0 := by omega
            have HFt := hidR HF2.out
            have hRt := hidR hR2.out
            have HRbt := hidR HRb2.out
            obtain ⟨q0, q1, q2⟩ := box3 (v := v1) hvb2.out
            obtain ⟨d0, d1, d2⟩ := HFt.out.cells
            have hst : w.heap.size + 1 + 1 < w2.heap.size := lt_of_block' HFt.out.1
            have hvt : w1.heap.size < w2.heap.size := World.block_lt_of_cell? w2 ⟨w1.heap.size, 0, none⟩ q0
            have HWt := hidR (fun o => (Below.refl _ _).alloc (Nat.le_refl _) o : ∀ o, Below w2.heap.size w2 (w2.alloc o))
            have HOWt := hidR (fun o => own_bel HFt.out.2.1 (HWt.out o))
            go_wp2_with (first | (at_builtin; refine wpList_append_any (by rfl) (.tmp 55) (.tmp 57) 29 (by rfl) w.heap.size 125 _ 3 32 Try.underlying29 infoVF (by rfl) (by omega) _ vs.length _ (by rfl) (HOWt.out _) (some ⟨_, 0, none⟩) 1 1 (by rfl) (V.cells v1) (by rfl) (fun e => by cases e) (news_new _ _ _ _ (by simp)) (V.cells_one v1) (by unfold maxLen; omega) (by omega) (by simp; omega) ?_; intro a3 c3 w3 ho3 hg3 hl3; obtain ⟨k3, z3⟩ := f_cells HFt.out (HWt.out _) hg3.out) | fail)
            obtain ⟨r1, r2⟩ := f_put HFt.out hv1 hRt.out (HWt.out _) ho3.out hg3.out (Nat.le_refl _) (by omega) hlt
            go_roundw
            case rel => exact ⟨i + 1, a3, c3, vs ++ [v1], by go_num, by omega, by simp [HVL.out], r1, (Below.heap_setCell _ _ _ _ (by simp)).trans (box_grown (t' := 125) (((HWt.out _).block _ (by omega)).trans HRbt.out) hg3.out (fun k hk => own_type (HOWt.out _) hk) (by decide)), r2⟩
            case measure => (simp [intOf]; omega)
      · have HFt := hidR HF0.out
        have hRt := hidR hR0.out
        have HRbt := hidR HRb0.out
        obtain ⟨q0, q1, q2⟩ := box3 (v := v1) hvb0.out
        obtain ⟨d0, d1, d2⟩ := HFt.out.cells
        have hst : w.heap.size + 1 + 1 < w0.heap.size := lt_of_block' HFt.out.1
        have hvt : w1.heap.size < w0.heap.size := World.block_lt_of_cell? w0 ⟨w1.heap.size, 0, none⟩ q0
        have HWt := hidR (fun o => (Below.refl _ _).alloc (Nat.le_refl _) o : ∀ o, Below w0.heap.size w0 (w0.alloc o))
        have HOWt := hidR (fun o => own_bel HFt.out.2.1 (HWt.out o))
        go_wp2_with (first | (at_builtin; refine wpList_append_any (by rfl) (.tmp 55) (.tmp 57) 29 (by rfl) w.heap.size 125 _ 3 32 Try.underlying29 infoVF (by rfl) (by omega) _ vs.length _ (by rfl) (HOWt.out _) (some ⟨_, 0, none⟩) 1 1 (by rfl) (V.cells v1) (by rfl) (fun e => by cases e) (news_new _ _ _ _ (by simp)) (V.cells_one v1) (by unfold maxLen; omega) (by omega) (by simp; omega) ?_; intro a3 c3 w3 ho3 hg3 hl3; obtain ⟨k3, z3⟩ := f_cells HFt.out (HWt.out _) hg3.out) | fail)
        obtain ⟨r1, r2⟩ := f_put HFt.out hv1 hRt.out (HWt.out _) ho3.out hg3.out (Nat.le_refl _) (by omega) hlt
        go_roundw
        case rel => exact ⟨i + 1, a3, c3, vs ++ [v1], by go_num, by omega, by simp [HVL.out], r1, (Below.heap_setCell _ _ _ _ (by simp)).trans (box_grown (t' := 125) (((HWt.out _).block _ (by omega)).trans HRbt.out) hg3.out (fun k hk => own_type (HOWt.out _) hk) (by decide)), r2⟩
        case measure => (simp [intOf]; omega)
    · have hie : i = ts.length := by omega
      have hiI : ¬ (i : Int) < (ts.length : Int) := by omega
      obtain ⟨d0, d1, d2⟩ := HF.out.cells
      go_wp2_with (first | (refine wpList_store_blk (by rfl) 117 (.tmp 6) (.tmp 61) (by rfl) (w.heap.size + 1) [.int .i64 tag, .string cls, .slice a vs.length c] (by rfl) (by rfl) _ 117 HRb.out (by rfl) infoFS (by intro u hu; simp at hu; rcases hu with rfl | rfl | rfl <;> rfl) ?_; intro w3 hk3 ht3) | fail)
      have f0 : w3.cell? ⟨w.heap.size + 1, 0, none⟩ = some (.int .i64 tag) := by simp [World.cell?, hk3.out]
      have f1 : w3.cell? ⟨w.heap.size + 1, 1, none⟩ = some (.string cls) := by simp [World.cell?, hk3.out]
      have f2 : w3.cell? ⟨w.heap.size + 1, 2, none⟩ = some (.slice a vs.length c) := by simp [World.cell?, hk3.out]
      refine bodyPost_ret (v := fV tag cls (.slice a vs.length c)) (by simp [results, Try.results118, go_sem, f0, f1, f2, fV]) rfl ⟨a, c, vs, rfl, by omega, ?_, (fun p q r hh => HF.out.2.2 (p, q, r) hh), HR.out.turned ht3.out (by omega) hlt⟩
      refine owns_of_block HF.out.2.1 (fun k hk => ht3.out.block k (fun e => ?_))
      obtain ⟨cc, hcc⟩ := own_type HF.out.2.1 hk
      subst e
      exact own_far hcc HRb.out (by decide)
end Go.Proofs.Ytgamdkokmkagaaa
