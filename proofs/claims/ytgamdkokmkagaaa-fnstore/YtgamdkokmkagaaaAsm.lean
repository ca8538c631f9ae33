/-
  OUR OWN TEXT. The program's Assert.
-/
import Derived.Test.YtgamdkokmkagaaaSp8m
import Derived.Test.YtgamdkokmkagaaaPlusm
namespace Go.Proofs.Ytgamdkokmkagaaa
open Go.RowKit
attribute [local go_sem ↓] Go.wp_at_zero Go.wp_at_succ

theorem cellB {B : Nat} {w w' : World} (hb : Below B w w') {b o : Nat} {x : Value} (hlt : b < B) (h : w.cell? ⟨b, o, none⟩ = some x) : w'.cell? ⟨b, o, none⟩ = some x := (hb.cell (p := ⟨b, o, none⟩) hlt).trans h
def rqC (cls : ByteArray) (tag : Int) (sa : Option Addr) (n sc : Nat) : List Value := [.string cls, .int .i64 tag, .slice sa n sc]
theorem rq_cells {w : World} {b : Nat} {cls : ByteArray} {tag : Int} {sa : Option Addr} {n sc : Nat} {t : TypeId} {fr : Nat × Nat} (h : w.heap[b]? = some (.cells (rqC cls tag sa n sc).toArray t fr)) : w.cell? ⟨b, 0, none⟩ = some (.string cls) ∧ w.cell? ⟨b, 1, none⟩ = some (.int .i64 tag) ∧ w.cell? ⟨b, 2, none⟩ = some (.slice sa n sc) := by
  have hc := range_blk h
  exact ⟨hc 0 _ rfl, hc 1 _ rfl, hc 2 _ rfl⟩

set_option maxRecDepth 100000 in
set_option maxHeartbeats 1600000 in
theorem assert_bad (a : Option Addr) (c : Nat) (fs : List F) (nx cp : Int) (sg : Bool) (cls : ByteArray) (tag : Int) (sa : Option Addr) (sc : Nat) (vs : List V) (w : World) (hv : FactsAt w a fs) (hsv : ValsAt w sa vs) (hl : fs.length ≤ 1048576) (hs : ∀ f ∈ fs, Sized f) (hr : ∀ f ∈ fs, Read f) (hcs : cls.size ≤ maxLen) (hvl : vs.length ≤ 1048576) (hvs : ∀ v ∈ vs, v.sym.size ≤ maxLen) (hbad : (sValid fs nx cp sg && (gSym cls.data.toList && gSlots vs)) = false) :
    Calls Try.prog 120 #[.agg #[.slice a fs.length c, .int .i64 nx, .int .i64 cp, .bool sg], .agg #[.string cls, .int .i64 tag, .slice sa vs.length sc]] w fun e w' =>
      (∃ a' c' xs, e = .returned (C6.bad.val a' c') ∧ OFs w' w.heap.size (.slice a' C6.bad.fs.length c') C6.bad.fs.length C6.bad.fs xs) ∧ Below w.heap.size w w' := by
  have B3 : ∀ o o' o'', Below w.heap.size w (((w.alloc o).alloc o').alloc o'') := fun o o' o'' => (((Below.refl _ _).alloc (Nat.le_refl _) _).alloc (by simp) _).alloc (by simp; omega) _
  cases hva : sValid fs nx cp sg
  · clear hbad
    go_enter Try.func120, Try.ntmps120
    go_wp2_with (go_at_call 65; refine (iStoreValid_any a c fs nx cp sg _ (hv.below (B3 _ _ _)) hl hs hr).mono ?_; rintro e w1 ⟨rfl, hb1⟩; obtain ⟨hc1, hf1⟩ := bcell hb1)
    refine bodyPost_ret (v := C6.bad.val none 0) (by simp [results, Try.results120, go_sem, hc1, C6.val, C6.bad]) rfl ⟨⟨none, 0, [], rfl, OFs.nil _ _⟩, ?_⟩
    have hB : Below w.heap.size w w1 := (B3 _ _ _).trans (hb1.mono (by simp; omega))
    exact (((((hB.setCell (by simp; omega) _).setCell (by simp; omega) _).setCell (by simp; omega) _).setCell (by simp; omega) _).setCell (by simp; omega) _).setCell (by simp; omega) _
  · rw [hva, Bool.true_and] at hbad
    cases hgs : gSym cls.data.toList
    · clear hbad
      go_enter Try.func120, Try.ntmps120
      go_wp2_with (first | (go_at_call 65; refine (iStoreValid_any a c fs nx cp sg _ (hv.below (B3 _ _ _)) hl hs hr).mono ?_; rintro e w1 ⟨rfl, hb1⟩; obtain ⟨hc1, hf1⟩ := bcell hb1) | (go_at_call 165; refine (goodSymbol_any cls _ hcs).mono ?_; rintro e w' ⟨rfl, rfl⟩) | fail)
      refine bodyPost_ret (v := C6.bad.val none 0) (by simp [results, Try.results120, go_sem, hc1, C6.val, C6.bad]) rfl ⟨⟨none, 0, [], rfl, OFs.nil _ _⟩, ?_⟩
      have hB : Below w.heap.size w _ := (B3 _ _ _).trans (hb1.mono (by simp; omega))
      exact (((((hB.setCell (by simp; omega) _).setCell (by simp; omega) _).setCell (by simp; omega) _).setCell (by simp; omega) _).setCell (by simp; omega) _).setCell (by simp; omega) _
    · rw [hgs, Bool.true_and] at hbad
      go_enter Try.func120, Try.ntmps120
      go_wp2_with (first | (go_at_call 65; refine (iStoreValid_any a c fs nx cp sg _ (hv.below (B3 _ _ _)) hl hs hr).mono ?_; rintro e w1 ⟨rfl, hb1⟩; obtain ⟨hc1, hf1⟩ := bcell hb1; have hB1 : Below w.heap.size w w1 := ((B3 _ _ _).trans (hb1.mono (by simp; omega))); have hz1 : w.heap.size + 1 + 1 < w1.heap.size := Nat.lt_of_lt_of_le (by simp) hb1.size) | (go_at_call 165; refine (goodSymbol_any cls _ hcs).mono ?_; rintro e w' ⟨rfl, rfl⟩) | (go_at_call 166; refine (goodSlots_any sa sc vs _ (hsv.below hB1) hvl hvs).mono ?_; rintro e w2 ⟨rfl, hb2⟩; obtain ⟨hc2, hf2⟩ := bcell hb2) | fail)
      refine bodyPost_ret (v := C6.bad.val none 0) (by simp [results, Try.results120, go_sem, hc1, hc2, hz1, C6.val, C6.bad]) rfl ⟨⟨none, 0, [], rfl, OFs.nil _ _⟩, ?_⟩
      have hB : Below w.heap.size w w2 := hB1.trans (hb2.mono hB1.size)
      exact (((((hB.setCell (by simp; omega) _).setCell (by simp; omega) _).setCell (by simp; omega) _).setCell (by simp; omega) _).setCell (by simp; omega) _).setCell (by simp; omega) _

set_option maxRecDepth 100000 in
set_option maxHeartbeats 3200000 in
theorem assert_ok (a : Option Addr) (c : Nat) (fs : List F) (nx cp : Int) (sg : Bool) (cls : ByteArray) (tag : Int) (sa : Option Addr) (sc : Nat) (vs : List V) (w : World) (hv : FactsAt w a fs) (hsv : ValsAt w sa vs) (hl : fs.length ≤ 1048576) (hs : ∀ f ∈ fs, Sized f) (hr : ∀ f ∈ fs, Read f) (hcs : cls.size ≤ maxLen) (hvl : vs.length ≤ 1048576) (hvs : ∀ v ∈ vs, VOk v) (hva : sValid fs nx cp sg = true) (hgs : gSym cls.data.toList = true) (hgv : gSlots vs = true) :
    Calls Try.prog 120 #[.agg #[.slice a fs.length c, .int .i64 nx, .int .i64 cp, .bool sg], .agg #[.string cls, .int .i64 tag, .slice sa vs.length sc]] w fun e w' =>
      (∃ a' c' xs, e = .returned ((asOk fs nx cp sg cls vs).val a' c') ∧ OFs w' w.heap.size (.slice a' (asOk fs nx cp sg cls vs).fs.length c') (asOk fs nx cp sg cls vs).fs.length (asOk fs nx cp sg cls vs).fs xs) ∧ Below w.heap.size w w' := by
  have B3 : ∀ o o' o'', Below w.heap.size w (((w.alloc o).alloc o').alloc o'') := fun o o' o'' => (((Below.refl _ _).alloc (Nat.le_refl _) _).alloc (by simp) _).alloc (by simp; omega) _
  have hsl : ∀ f ∈ fs, f.slots.length ≤ 1048576 := fun f hf => (hs f hf).2.1
  have hvs' : ∀ v ∈ vs, v.sym.size ≤ maxLen := fun v h => (hvs v h).2.2
  obtain ⟨n1, n2, n3, n4, n5⟩ := sValid_head hva
  have hgf := sValid_from hva
  have hkok := kok_of hs hr hgf
  have hvl6 : vs.length ≤ 6 := by simp only [gSlots, Bool.and_eq_true, decide_eq_true_eq] at hgv; exact hgv.1
  have hkg : KOk ⟨nx, cls, vs⟩ := ⟨hcs, hvl6, hvs⟩
  have hTp : twinOf sg 0 cls vs fs = 0 ∨ 0 < twinOf sg 0 cls vs fs := by
    unfold twinOf
    split
    · exact twinTag_pos (Int.le_refl 0) hgf
    · exact .inl rfl
  go_enter Try.func120, Try.ntmps120
  go_wp2_with (first | (go_at_call 65; refine (iStoreValid_any a c fs nx cp sg _ (hv.below (B3 _ _ _)) hl hs hr).mono ?_; rintro e w0 ⟨rfl, hb0⟩; obtain ⟨hc0, hf0⟩ := bcell hb0; have hB0 : Below w.heap.size w w0 := ((B3 _ _ _).trans (hb0.mono (by simp; omega))); have hz0 : w.heap.size + 1 + 1 < w0.heap.size := Nat.lt_of_lt_of_le (by simp) hb0.size) | (go_at_call 165; refine (goodSymbol_any cls _ hcs).mono ?_; rintro e w' ⟨rfl, rfl⟩) | (go_at_call 166; refine (goodSlots_any sa sc vs _ (hsv.below hB0) hvl hvs').mono ?_; rintro e w1 ⟨rfl, hb1⟩; have HA1 := blk_below (blk_below (w := _) (o := .cells (stC a fs.length c nx cp sg).toArray 26 (0, 0)) (b := w.heap.size) ((Below.heap_alloc _ _ _ (by simp; omega)).trans ((Below.heap_alloc _ _ _ (by simp)).trans (new_blk _ _ _ rfl))) hb0) hb1; have HQ1 := blk_below (blk_below (w := _) (o := .cells (rqC cls tag sa vs.length sc).toArray 113 (0, 0)) (b := w.heap.size + 1) ((Below.heap_alloc _ _ _ (by simp)).trans (new_blk _ _ _ (by simp))) hb0) hb1; obtain ⟨q0, q1, q2, q3⟩ := st_cells HA1; obtain ⟨t0, t1, t2⟩ := rq_cells HQ1; have hz1 : w.heap.size + 1 + 1 < w1.heap.size := Nat.lt_of_lt_of_le hz0 hb1.size; have hz1a : w.heap.size < w1.heap.size := (by omega); have hz1b : w.heap.size + 1 < w1.heap.size := (by omega)) | fail)
  have hB1 : Below w.heap.size w w1 := hB0.trans (hb1.mono hB0.size)
  obtain ⟨R, hR, hRs⟩ : ∃ R : Array Value, w1.heap[w.heap.size + 1 + 1]? = some (.cells R 33 (0, 0)) ∧ R.size = 6 := ⟨_, (hb1.block _ hz0).trans ((hb0.block _ (by simp)).trans (new_blk _ _ _ (by simp))), rfl⟩
  have hn1 : ∀ o, Below w1.heap.size w1 (w1.alloc o) := fun o => (Below.refl _ _).alloc (Nat.le_refl _) _
  have HR1 := hidden' hR
  have HA1' := hidden' HA1
  clear q0 q1 q2 q3 t0 t1 t2 HQ1 hb0 hb1 hc0 hf0 HA1 hR
  refine (twin_any a c fs nx cp sg ⟨nx, cls, vs⟩ sa sc 0 _ ((hv.below hB1).below (hn1 _)) ((hsv.below hB1).below (hn1 _)) hl hkok hkg).mono ?_
  rintro e w2 ⟨rfl, hb2⟩
  have hb2' : Below w1.heap.size w1 w2 := (hn1 _).trans (hb2.mono (by simp))
  have hB2 : Below w.heap.size w w2 := hB1.trans (hb2'.mono hB1.size)
  have HA2 := hidden' (blk_below HA1'.out hb2')
  have HR2 := hidden' (blk_below HR1.out hb2')
  have g0 : w2.cell? ⟨w1.heap.size, 0, none⟩ = some (.int .i64 nx) := cell_below hb2 (by simp [go_sem])
  have g1 : w2.cell? ⟨w1.heap.size, 1, none⟩ = some (.string cls) := cell_below hb2 (by simp [go_sem])
  have g2 : w2.cell? ⟨w1.heap.size, 2, none⟩ = some (.slice sa vs.length sc) := cell_below hb2 (by simp [go_sem])
  obtain ⟨q0, q1, q2, q3⟩ := st_cells HA2.out
  have hv2 := hv.below hB2
  have hsv2 := hsv.below hB2
  have hz2 : w1.heap.size < w2.heap.size := Nat.lt_of_lt_of_le (by simp) hb2.size
  clear HA1' HR1 hb2 hb2' hn1 hv hsv hs hr hkok hkg hvs hvs'
  generalize hT : twinOf sg 0 cls vs fs = T at hTp
  by_cases ht : 0 < T
  · have HE := hidden' (show asOk fs nx cp sg cls vs = ⟨fs, nx, cp, sg, 2, T⟩ by unfold asOk; rw [hT, if_pos ht])
    have htb : (T != 0) = true := by simp; omega
    clear hT
    go_wp2_with (first | (go_at_call 168; refine (refuse_any a c fs nx cp sg 2 T w2 hv2 hl hsl).mono ?_; rintro e w3 ⟨⟨a3, c3, xs3, rfl, ho3⟩, hb3⟩) | (refine wpList_store_blk (by rfl) 33 (.tmp 4) (.tmp 37) (by rfl) (w.heap.size + 1 + 1) (C6.cells ⟨fs, nx, cp, sg, 2, T⟩ a3 c3) (by rfl) (by rfl) R 33 (blk_below HR2.out hb3) hRs infoC (C6.one _ _ _) ?_; intro w4 hh4 ht4) | fail)
    try go_frame
    refine bodyPost_ret (v := C6.val ⟨fs, nx, cp, sg, 2, T⟩ a3 c3) (by simp [results, Try.results120, asAddr, C6.load hh4.out]) rfl ?_
    rw [HE.out]
    exact ⟨⟨a3, c3, xs3, rfl, (ho3.kept (fun g hg => ht4.out.block g (by have := (ho3.range hg).1; omega))).lower hB2.size⟩, (hB2.trans (hb3.mono hB2.size)).trans (ht4.out.below (by omega))⟩
  · have hT0 : T = 0 := by omega
    subst hT0
    by_cases hfull : (fs.length : Int) = cp
    · have HE := hidden' (show asOk fs nx cp sg cls vs = ⟨fs, nx, cp, sg, 3, 0⟩ by unfold asOk; rw [hT, if_neg ht, if_pos hfull])
      have hge : cp ≤ (fs.length : Int) := by omega
      clear hT hfull
      go_wp2_with (first | (go_at_call 168; refine (refuse_any a c fs nx cp sg 3 0 w2 hv2 hl hsl).mono ?_; rintro e w3 ⟨⟨a3, c3, xs3, rfl, ho3⟩, hb3⟩) | (refine wpList_store_blk (by rfl) 33 (.tmp 4) (.tmp 45) (by rfl) (w.heap.size + 1 + 1) (C6.cells ⟨fs, nx, cp, sg, 3, 0⟩ a3 c3) (by rfl) (by rfl) R 33 (blk_below HR2.out hb3) hRs infoC (C6.one _ _ _) ?_; intro w4 hh4 ht4) | fail)
      try go_frame
      refine bodyPost_ret (v := C6.val ⟨fs, nx, cp, sg, 3, 0⟩ a3 c3) (by simp [results, Try.results120, asAddr, C6.load hh4.out]) rfl ?_
      rw [HE.out]
      exact ⟨⟨a3, c3, xs3, rfl, (ho3.kept (fun g hg => ht4.out.block g (by have := (ho3.range hg).1; omega))).lower hB2.size⟩, (hB2.trans (hb3.mono hB2.size)).trans (ht4.out.below (by omega))⟩
    · have hlt : (fs.length : Int) < cp := by omega
      by_cases hnx : 1000000 < nx
      · have HE := hidden' (show asOk fs nx cp sg cls vs = ⟨fs, nx, cp, sg, 4, 0⟩ by unfold asOk; rw [hT, if_neg ht, if_neg hfull, if_pos hnx])
        clear hT
        go_wp2_with (first | (go_at_call 168; refine (refuse_any a c fs nx cp sg 4 0 w2 hv2 hl hsl).mono ?_; rintro e w3 ⟨⟨a3, c3, xs3, rfl, ho3⟩, hb3⟩) | (refine wpList_store_blk (by rfl) 33 (.tmp 4) (.tmp 50) (by rfl) (w.heap.size + 1 + 1) (C6.cells ⟨fs, nx, cp, sg, 4, 0⟩ a3 c3) (by rfl) (by rfl) R 33 (blk_below HR2.out hb3) hRs infoC (C6.one _ _ _) ?_; intro w4 hh4 ht4) | fail)
        try go_frame
        refine bodyPost_ret (v := C6.val ⟨fs, nx, cp, sg, 4, 0⟩ a3 c3) (by simp [results, Try.results120, asAddr, C6.load hh4.out]) rfl ?_
        rw [HE.out]
        exact ⟨⟨a3, c3, xs3, rfl, (ho3.kept (fun g hg => ht4.out.block g (by have := (ho3.range hg).1; omega))).lower hB2.size⟩, (hB2.trans (hb3.mono hB2.size)).trans (ht4.out.below (by omega))⟩
      · have HE := hidden' (show asOk fs nx cp sg cls vs = ⟨fs ++ [⟨nx, cls, vs⟩], nx + 1, cp, sg, 0, nx⟩ by unfold asOk; rw [hT, if_neg ht, if_neg hfull, if_neg hnx])
        clear hT
        go_wp2_with fail
        go_region_held3 (fun w' => w'.cell? ⟨w.heap.size, 0, none⟩ = some (.slice a fs.length c) ∧ w'.cell? ⟨w.heap.size, 1, none⟩ = some (.int .i64 nx) ∧ w'.cell? ⟨w.heap.size, 2, none⟩ = some (.int .i64 cp) ∧ w'.cell? ⟨w.heap.size, 3, none⟩ = some (.bool sg) ∧ w'.cell? ⟨w1.heap.size, 0, none⟩ = some (.int .i64 nx) ∧ w'.cell? ⟨w1.heap.size, 1, none⟩ = some (.string cls) ∧ w'.cell? ⟨w1.heap.size, 2, none⟩ = some (.slice sa vs.length sc))
          ((go_split_ands; refine ⟨?_, ?_, ?_, ?_, ?_, ?_, ?_⟩ <;> first | ((with_reducible refine cell_set (cell_set (cell_set (cell_set (cell_set (cell_set ?_ ?_ _) ?_ _) ?_ _) ?_ _) ?_ _) ?_ _) <;> first | with_reducible assumption | (dsimp only; omega)) | (with_reducible refine cellB hb5 ?_ (by assumption); show _ < w2.heap.size; omega) | with_reducible exact cell_below hb3 (by assumption) | with_reducible exact cell_drew (by assumption)))
          (first | (go_at_call 169; refine (stCopied_any a c fs nx cp sg _ (hv2.below ?_) hl hsl).mono ?_; exact (Below.refl _ _).drew; rintro e w3 ⟨⟨a3, c3, xs3, rfl, ho3⟩, hb3⟩) | (go_at_call 170; refine (plus_any a3 c3 fs xs3 nx cp sg ⟨nx, cls, vs⟩ sa sc w2.heap.size w3 ho3 (hsv2.below ?_) hl hvl hb3.size (by show 0 ≤ nx; omega) (by show nx ≤ 1000000; omega)).mono ?_; exact (Below.refl _ _).drew.trans hb3; rintro e w5 ⟨⟨a5, c5, xs5, rfl, ho5⟩, hb5⟩; dsimp only [C6.val]; obtain ⟨x0, x1, x2, x3, x4, x5, y0, y1, y2, y3, y4, y5, z0, z1, z2, z3, z4, z5⟩ := six (b := w.heap.size + 1 + 1) ((hb5.block _ (by omega)).trans (blk_below (w := w2.drew) HR2.out hb3)) hRs) | fail)
        go_wp2
        refine bodyPost_ret (v := C6.val ⟨fs ++ [⟨nx, cls, vs⟩], nx + 1, cp, sg, 0, nx⟩ a5 c5) (by simp [results, Try.results120, go_sem, C6.val, *]) rfl ?_
        rw [HE.out]
        refine ⟨⟨a5, c5, xs5, rfl, ?_⟩, ?_⟩
        · exact ((((((ho5.set (by simp; omega) _).set (by simp; omega) _).set (by simp; omega) _).set (by simp; omega) _).set (by simp; omega) _).set (by simp; omega) _).lower hB2.size
        · have hB5 : Below w.heap.size w w5 := (hB2.drew.trans (hb3.mono hB2.size)).trans (hb5.mono hB2.size)
          exact (((((hB5.setCell (by simp; omega) _).setCell (by simp; omega) _).setCell (by simp; omega) _).setCell (by simp; omega) _).setCell (by simp; omega) _).setCell (by simp; omega) _

theorem assert_any (a : Option Addr) (c : Nat) (fs : List F) (nx cp : Int) (sg : Bool) (cls : ByteArray) (tag : Int) (sa : Option Addr) (sc : Nat) (vs : List V) (w : World) (hv : FactsAt w a fs) (hsv : ValsAt w sa vs) (hl : fs.length ≤ 1048576) (hs : ∀ f ∈ fs, Sized f) (hr : ∀ f ∈ fs, Read f) (hcs : cls.size ≤ maxLen) (hvl : vs.length ≤ 1048576) (hvs : ∀ v ∈ vs, VOk v) :
    Calls Try.prog 120 #[.agg #[.slice a fs.length c, .int .i64 nx, .int .i64 cp, .bool sg], .agg #[.string cls, .int .i64 tag, .slice sa vs.length sc]] w fun e w' =>
      (∃ a' c' xs, e = .returned ((asrt fs nx cp sg cls vs).val a' c') ∧ OFs w' w.heap.size (.slice a' (asrt fs nx cp sg cls vs).fs.length c') (asrt fs nx cp sg cls vs).fs.length (asrt fs nx cp sg cls vs).fs xs) ∧ Below w.heap.size w w' := by
  cases h : (sValid fs nx cp sg && (gSym cls.data.toList && gSlots vs))
  · rw [asrt_bad h]
    exact assert_bad a c fs nx cp sg cls tag sa sc vs w hv hsv hl hs hr hcs hvl (fun v h => (hvs v h).2.2) h
  · simp only [Bool.and_eq_true] at h
    rw [asrt_ok h.1 h.2.1 h.2.2]
    exact assert_ok a c fs nx cp sg cls tag sa sc vs w hv hsv hl hs hr hcs hvl hvs h.1 h.2.1 h.2.2

set_option maxRecDepth 100000 in
set_option maxHeartbeats 1600000 in
theorem iAssert_any (a : Option Addr) (c : Nat) (fs : List F) (nx cp : Int) (sg : Bool) (cls : ByteArray) (sa : Option Addr) (sc : Nat) (vs : List V) (w : World) (hv : FactsAt w a fs) (hsv : ValsAt w sa vs) (hl : fs.length ≤ 1048576) (hs : ∀ f ∈ fs, Sized f) (hr : ∀ f ∈ fs, Read f) (hcs : cls.size ≤ maxLen) (hvl : vs.length ≤ 1048576) (hvs : ∀ v ∈ vs, VOk v) :
    Calls Try.prog 13 #[.agg #[.slice a fs.length c, .int .i64 nx, .int .i64 cp, .bool sg], .string cls, .slice sa vs.length sc] w fun e w' =>
      (∃ a' c' xs, e = .returned ((asrt fs nx cp sg cls vs).val a' c') ∧ OFs w' w.heap.size (.slice a' (asrt fs nx cp sg cls vs).fs.length c') (asrt fs nx cp sg cls vs).fs.length (asrt fs nx cp sg cls vs).fs xs) ∧ Below w.heap.size w w' := by
  have B2 : ∀ o o', Below w.heap.size w ((w.alloc o).alloc o') := fun o o' => ((Below.refl _ _).alloc (Nat.le_refl _) _).alloc (by simp) _
  go_enter Try.func13, Try.ntmps13
  go_wp2_with fail
  go_region_held3 (fun w' => w'.cell? ⟨w.heap.size, 0, none⟩ = some (.slice a fs.length c) ∧ w'.cell? ⟨w.heap.size, 1, none⟩ = some (.int .i64 nx) ∧ w'.cell? ⟨w.heap.size, 2, none⟩ = some (.int .i64 cp) ∧ w'.cell? ⟨w.heap.size, 3, none⟩ = some (.bool sg))
    ((go_split_ands; refine ⟨?_, ?_, ?_, ?_⟩ <;> first | ((with_reducible refine cell_set (cell_set (cell_set (cell_set (cell_set (cell_set ?_ ?_ _) ?_ _) ?_ _) ?_ _) ?_ _) ?_ _) <;> first | with_reducible assumption | (dsimp only; omega)) | with_reducible exact cell_below hb2 (by assumption) | with_reducible exact cell_below hb1 (by assumption) | (simp [go_sem]; done)))
    (first | (go_at_call 64; refine (changeBy_any 1 _ (by omega) rfl _).mono ?_; rintro e w1 ⟨rfl, hb1⟩) | (go_at_call 120; refine (assert_any a c fs nx cp sg cls 0 sa sc vs _ (hv.below ?_) (hsv.below ?_) hl hs hr hcs hvl hvs).mono ?_; exact (B2 _ _).drew.trans (hb1.mono (by simp; omega)); exact (B2 _ _).drew.trans (hb1.mono (by simp; omega)); rintro e w2 ⟨⟨a2, c2, xs2, rfl, ho2⟩, hb2⟩; dsimp only [C6.val]; obtain ⟨x0, x1, x2, x3, x4, x5, y0, y1, y2, y3, y4, y5, z0, z1, z2, z3, z4, z5⟩ := six (b := w.heap.size + 1) (t := 33) ((hb2.block _ (Nat.lt_of_lt_of_le (by simp) hb1.size)).trans ((hb1.block _ (by simp)).trans (new_blk _ _ _ (by simp)))) rfl) | fail)
  go_wp2
  have hB1 : Below w.heap.size w w1 := (B2 _ _).drew.trans (hb1.mono (by simp; omega))
  have hz : w.heap.size + 1 + 1 ≤ w1.heap.size := by have := hb1.size; simpa using this
  refine bodyPost_ret (v := (asrt fs nx cp sg cls vs).val a2 c2) (by simp [results, Try.results13, go_sem, C6.val, *]) rfl ⟨⟨a2, c2, xs2, rfl, ?_⟩, ?_⟩
  · exact ((((((ho2.set (by simp; omega) _).set (by simp; omega) _).set (by simp; omega) _).set (by simp; omega) _).set (by simp; omega) _).set (by simp; omega) _).lower hB1.size
  · exact ((((((hB1.trans (hb2.mono hB1.size)).setCell (by simp) _).setCell (by simp) _).setCell (by simp) _).setCell (by simp) _).setCell (by simp) _).setCell (by simp) _
end Go.Proofs.Ytgamdkokmkagaaa
