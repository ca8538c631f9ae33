/-
  OUR OWN TEXT. Mo, Im, one behind the other.
-/
import Derived.Test.YtgamdkokmkagaaaJx
import Derived.Test.YtgamdkokmkagaaaAsm
namespace Go.Proofs.Ytgamdkokmkagaaa
open Go.RowKit Go.Maps
attribute [local go_sem ↓] Go.wp_at_zero Go.wp_at_succ

set_option maxRecDepth 100000 in
set_option maxHeartbeats 1600000 in
theorem modify_bad (a : Option Addr) (c : Nat) (fs : List F) (nx cp : Int) (sg : Bool) (cls : ByteArray) (tag : Int) (sa : Option Addr) (sc : Nat) (vs : List V) (w : World) (hv : FactsAt w a fs) (hsv : ValsAt w sa vs) (hl : fs.length ≤ 1048576) (hs : ∀ f ∈ fs, Sized f) (hr : ∀ f ∈ fs, Read f) (hvl : vs.length ≤ 1048576) (hvs : ∀ v ∈ vs, v.sym.size ≤ maxLen) (hbad : (sValid fs nx cp sg && gSlots vs) = false) :
    Calls Try.prog 122 #[.agg #[.slice a fs.length c, .int .i64 nx, .int .i64 cp, .bool sg], .agg #[.string cls, .int .i64 tag, .slice sa vs.length sc]] w fun e w' =>
      (∃ a' c' xs, e = .returned (C6.bad.val a' c') ∧ OFs w' w.heap.size (.slice a' C6.bad.fs.length c') C6.bad.fs.length C6.bad.fs xs) ∧ Below w.heap.size w w' := by
  have B3 : ∀ o o' o'', Below w.heap.size w (((w.alloc o).alloc o').alloc o'') := fun o o' o'' => (((Below.refl _ _).alloc (Nat.le_refl _) _).alloc (by simp) _).alloc (by simp; omega) _
  cases hva : sValid fs nx cp sg
  · clear hbad
    go_enter Try.func122, Try.ntmps122
    go_wp2_with (go_at_call 65; refine (iStoreValid_any a c fs nx cp sg _ (hv.below (B3 _ _ _)) hl hs hr).mono ?_; rintro e w1 ⟨rfl, hb1⟩; obtain ⟨hc1, hf1⟩ := bcell hb1)
    refine bodyPost_ret (v := C6.bad.val none 0) (by simp [results, Try.results122, go_sem, hc1, C6.val, C6.bad]) rfl ⟨⟨none, 0, [], rfl, OFs.nil _ _⟩, ?_⟩
    have hB : Below w.heap.size w w1 := (B3 _ _ _).trans (hb1.mono (by simp; omega))
    exact (((((hB.setCell (by simp; omega) _).setCell (by simp; omega) _).setCell (by simp; omega) _).setCell (by simp; omega) _).setCell (by simp; omega) _).setCell (by simp; omega) _
  · rw [hva, Bool.true_and] at hbad
    go_enter Try.func122, Try.ntmps122
    go_wp2_with (first | (go_at_call 65; refine (iStoreValid_any a c fs nx cp sg _ (hv.below (B3 _ _ _)) hl hs hr).mono ?_; rintro e w1 ⟨rfl, hb1⟩; obtain ⟨hc1, hf1⟩ := bcell hb1; have hB1 : Below w.heap.size w w1 := ((B3 _ _ _).trans (hb1.mono (by simp; omega))); have hz1 : w.heap.size + 1 + 1 < w1.heap.size := Nat.lt_of_lt_of_le (by simp) hb1.size) | (go_at_call 166; refine (goodSlots_any sa sc vs _ (hsv.below hB1) hvl hvs).mono ?_; rintro e w2 ⟨rfl, hb2⟩; obtain ⟨hc2, hf2⟩ := bcell hb2) | fail)
    refine bodyPost_ret (v := C6.bad.val none 0) (by simp [results, Try.results122, go_sem, hc1, hc2, hz1, C6.val, C6.bad]) rfl ⟨⟨none, 0, [], rfl, OFs.nil _ _⟩, ?_⟩
    have hB : Below w.heap.size w w2 := hB1.trans (hb2.mono hB1.size)
    exact (((((hB.setCell (by simp; omega) _).setCell (by simp; omega) _).setCell (by simp; omega) _).setCell (by simp; omega) _).setCell (by simp; omega) _).setCell (by simp; omega) _

set_option maxRecDepth 100000 in
set_option maxHeartbeats 3200000 in
theorem modify_ok (a : Option Addr) (c : Nat) (fs : List F) (nx cp : Int) (sg : Bool) (cls : ByteArray) (tag : Int) (sa : Option Addr) (sc : Nat) (vs : List V) (w : World) (hv : FactsAt w a fs) (hsv : ValsAt w sa vs) (hc : fs.length ≤ c) (hl : fs.length ≤ 1048576) (hs : ∀ f ∈ fs, Sized f) (hr : ∀ f ∈ fs, Read f) (hwt : (Lit.int .i64 tag).wf = true) (hvl : vs.length ≤ 1048576) (hvs : ∀ v ∈ vs, VOk v) (hva : sValid fs nx cp sg = true) (hgv : gSlots vs = true) :
    Calls Try.prog 122 #[.agg #[.slice a fs.length c, .int .i64 nx, .int .i64 cp, .bool sg], .agg #[.string cls, .int .i64 tag, .slice sa vs.length sc]] w fun e w' =>
      (∃ a' c' xs, e = .returned ((mdfy fs nx cp sg tag vs).val a' c') ∧ OFs w' w.heap.size (.slice a' (mdfy fs nx cp sg tag vs).fs.length c') (mdfy fs nx cp sg tag vs).fs.length (mdfy fs nx cp sg tag vs).fs xs) ∧ Below w.heap.size w w' := by
  have B3 : ∀ o o' o'', Below w.heap.size w (((w.alloc o).alloc o').alloc o'') := fun o o' o'' => (((Below.refl _ _).alloc (Nat.le_refl _) _).alloc (by simp) _).alloc (by simp; omega) _
  have hsl : ∀ f ∈ fs, f.slots.length ≤ 1048576 := fun f hf => (hs f hf).2.1
  have hvs' : ∀ v ∈ vs, v.sym.size ≤ maxLen := fun v h => (hvs v h).2.2
  obtain ⟨n1, n2, n3, n4, n5⟩ := sValid_head hva
  have hgf := sValid_from hva
  have hkok := kok_of hs hr hgf
  have hvl6 : vs.length ≤ 6 := by simp only [gSlots, Bool.and_eq_true, decide_eq_true_eq] at hgv; exact hgv.1
  go_enter Try.func122, Try.ntmps122
  go_wp2_with (first | (go_at_call 65; refine (iStoreValid_any a c fs nx cp sg _ (hv.below (B3 _ _ _)) hl hs hr).mono ?_; rintro e w0 ⟨rfl, hb0⟩; obtain ⟨hc0, hf0⟩ := bcell hb0; have hB0 : Below w.heap.size w w0 := ((B3 _ _ _).trans (hb0.mono (by simp; omega))); have hz0 : w.heap.size + 1 + 1 < w0.heap.size := Nat.lt_of_lt_of_le (by simp) hb0.size) | (go_at_call 166; refine (goodSlots_any sa sc vs _ (hsv.below hB0) hvl hvs').mono ?_; rintro e w1 ⟨rfl, hb1⟩) | fail)
  have HA1 := hidden' (blk_below (blk_below (w := _) (o := .cells (stC a fs.length c nx cp sg).toArray 26 (0, 0)) (b := w.heap.size) ((Below.heap_alloc _ _ _ (by simp; omega)).trans ((Below.heap_alloc _ _ _ (by simp)).trans (new_blk _ _ _ rfl))) hb0) hb1)
  have HQ1 := hidden' (blk_below (blk_below (w := _) (o := .cells (rqC cls tag sa vs.length sc).toArray 113 (0, 0)) (b := w.heap.size + 1) ((Below.heap_alloc _ _ _ (by simp)).trans (new_blk _ _ _ (by simp))) hb0) hb1)
  obtain ⟨R, hR, hRs⟩ : ∃ R : Array Value, w1.heap[w.heap.size + 1 + 1]? = some (.cells R 33 (0, 0)) ∧ R.size = 6 := ⟨_, (hb1.block _ hz0).trans ((hb0.block _ (by simp)).trans (new_blk _ _ _ (by simp))), rfl⟩
  have HR1 := hidden' hR
  have hB1 : Below w.heap.size w w1 := hB0.trans (hb1.mono hB0.size)
  have hz1 : w.heap.size + 1 + 1 < w1.heap.size := Nat.lt_of_lt_of_le hz0 hb1.size
  obtain ⟨q0, q1, q2, q3⟩ := st_cells HA1.out
  obtain ⟨t0, t1, t2⟩ := rq_cells HQ1.out
  have hv1 := hv.below hB1
  have hlook : ∀ (W : World) (b : Nat) (D : DataW Unit), W.ownsMap Try.prog 3 (plainElem Try.prog 3) b fs.length D → PInv fs fs.length D → (Instr.lookup 226 (.map (some b)) (.int .i64 tag) true).run Try.prog W = .ok (.tuple #[.int .i64 (atOf (fidx tag fs)), .bool (fidx tag fs).isSome]) W := fun _ _ _ ho hI => look_any ho hI hwt
  have HLK := hidden' hlook
  clear hb0 hb1 hc0 hf0 hR hlook t0
  cases hi : fidx tag fs with
  | none =>
    have HE := hidden' (mdfy_none (tag := tag) hva hgv hi)
    go_region_held3 (fun w' => w'.cell? ⟨w.heap.size, 0, none⟩ = some (.slice a fs.length c) ∧ w'.cell? ⟨w.heap.size, 1, none⟩ = some (.int .i64 nx) ∧ w'.cell? ⟨w.heap.size, 2, none⟩ = some (.int .i64 cp) ∧ w'.cell? ⟨w.heap.size, 3, none⟩ = some (.bool sg) ∧ w'.cell? ⟨w.heap.size + 1, 1, none⟩ = some (.int .i64 tag))
      ((go_split_ands; refine ⟨?_, ?_, ?_, ?_, ?_⟩ <;> first | with_reducible assumption | with_reducible exact cell_below hb2 (by assumption) | with_reducible exact cell_drew (by assumption)))
      (first | (go_at_call 171; refine (places_any a c fs nx cp sg _ (hv1.below ?_) hl hgf hr).mono ?_; exact (Below.refl _ _).drew; rintro e w2 ⟨b2, D, rfl, ho2, hI2, hb2⟩; have hrun : (Instr.lookup 226 (.map (some b2)) (.int .i64 tag) true).run Try.prog w2 = .ok (.tuple #[.int .i64 0, .bool false]) w2 := (by have := HLK.out _ _ _ ho2 hI2; rw [hi] at this; exact this)) | fail)
    clear hrun
    have hB2 : Below w.heap.size w w2 := hB1.drew.trans (hb2.mono hB1.size)
    have hv2 := hv.below hB2
    have hz2 : w.heap.size + 1 + 1 < w2.heap.size := Nat.lt_of_lt_of_le hz1 hb2.size
    have HR2 := hidden' (blk_below (w := w1.drew) HR1.out hb2)
    clear HLK hi hb2 ho2 hI2
    go_wp2_with (first | (go_at_call 168; refine (refuse_any a c fs nx cp sg 5 0 w2 hv2 hl hsl).mono ?_; rintro e w3 ⟨⟨a3, c3, xs3, rfl, ho3⟩, hb3⟩) | (refine wpList_store_blk (by rfl) 33 (.tmp 4) (.tmp 30) (by rfl) (w.heap.size + 1 + 1) (C6.cells ⟨fs, nx, cp, sg, 5, 0⟩ a3 c3) (by rfl) (by rfl) R 33 (blk_below HR2.out hb3) hRs infoC (C6.one _ _ _) ?_; intro w4 hh4 ht4) | fail)
    try go_frame
    refine bodyPost_ret (v := C6.val ⟨fs, nx, cp, sg, 5, 0⟩ a3 c3) (by simp [results, Try.results122, asAddr, C6.load hh4.out]) rfl ?_
    rw [HE.out]
    exact ⟨⟨a3, c3, xs3, rfl, (ho3.kept (fun g hg => ht4.out.block g (by have := (ho3.range hg).1; omega))).lower hB2.size⟩, (hB2.trans (hb3.mono hB2.size)).trans (ht4.out.below (by omega))⟩
  | some i =>
    have hil := fidx_lt hi
    obtain ⟨f, hf⟩ : ∃ f, fs[i]? = some f := ⟨fs[i], by simp [hil]⟩
    have HM := hidden' (mdfy_some (tag := tag) hva hgv hi hf)
    have hfc : f.cls.size ≤ maxLen := (hkok f (List.mem_of_getElem? hf)).1
    have hkg : KOk ⟨nx, f.cls, vs⟩ := ⟨hfc, hvl6, hvs⟩
    have hTp : twinOf sg tag f.cls vs fs = 0 ∨ 0 < twinOf sg tag f.cls vs fs := by
      unfold twinOf
      split
      · exact twinTag_pos (Int.le_refl 0) hgf
      · exact .inl rfl
    go_region_held3 (fun w' => w'.cell? ⟨w.heap.size, 0, none⟩ = some (.slice a fs.length c) ∧ w'.cell? ⟨w.heap.size, 1, none⟩ = some (.int .i64 nx) ∧ w'.cell? ⟨w.heap.size, 2, none⟩ = some (.int .i64 cp) ∧ w'.cell? ⟨w.heap.size, 3, none⟩ = some (.bool sg) ∧ w'.cell? ⟨w.heap.size + 1, 1, none⟩ = some (.int .i64 tag))
      ((go_split_ands; refine ⟨?_, ?_, ?_, ?_, ?_⟩ <;> first | with_reducible assumption | with_reducible exact cell_below hb2 (by assumption) | with_reducible exact cell_drew (by assumption)))
      (first | (go_at_call 171; refine (places_any a c fs nx cp sg _ (hv1.below ?_) hl hgf hr).mono ?_; exact (Below.refl _ _).drew; rintro e w2 ⟨b2, D, rfl, ho2, hI2, hb2⟩; have hrun : (Instr.lookup 226 (.map (some b2)) (.int .i64 tag) true).run Try.prog w2 = .ok (.tuple #[.int .i64 i, .bool true]) w2 := (by have := HLK.out _ _ _ ho2 hI2; rw [hi] at this; exact this)) | fail)
    clear hrun
    have hB2 : Below w.heap.size w w2 := hB1.drew.trans (hb2.mono hB1.size)
    have hv2 := hv.below hB2
    have hsv2 := hsv.below hB2
    have hz2 : w.heap.size + 1 + 1 < w2.heap.size := Nat.lt_of_lt_of_le hz1 hb2.size
    have hz2a : w.heap.size < w2.heap.size := by omega
    have hz2b : w.heap.size + 1 < w2.heap.size := by omega
    have HR2 := hidden' (blk_below (w := w1.drew) HR1.out hb2)
    have HA2 := hidden' (blk_below (w := w1.drew) HA1.out hb2)
    have HQ2 := hidden' (blk_below (w := w1.drew) HQ1.out hb2)
    obtain ⟨b, o, rfl, c0, c1, _⟩ := hv2 i f hf
    have hbz : b < w2.heap.size := World.block_lt_of_cell? w2 ⟨b, _, none⟩ c1
    clear HLK hi hb2 ho2 hI2 HR1 HA1 HQ1 q0 q1 q2 q3 t1 t2 hf c0 hs hr hvs hvs' hv hsv hv1
    go_split_ands
    obtain ⟨q0, q1, q2, q3⟩ := st_cells HA2.out
    obtain ⟨t0, t1, t2⟩ := rq_cells HQ2.out
    clear t0
    go_wp2_with fail
    go_region
    go_wp2_with fail
    have hn2 : ∀ o, Below w2.heap.size w2 (w2.alloc o).drew := fun o => ((Below.refl _ _).alloc (Nat.le_refl _) _).drew
    refine (twin_any (some ⟨b, o, none⟩) c fs nx cp sg ⟨nx, f.cls, vs⟩ sa sc tag _ (hv2.below (hn2 _)) (hsv2.below (hn2 _)) hl hkok hkg).mono ?_
    rintro e w3 ⟨rfl, hb3⟩
    have hb3' : Below w2.heap.size w2 w3 := (hn2 _).trans (hb3.mono (hn2 _).size)
    have hB3 : Below w.heap.size w w3 := hB2.trans (hb3'.mono hB2.size)
    have HA3 := hidden' (blk_below HA2.out hb3')
    have HR3 := hidden' (blk_below HR2.out hb3')
    have g0 : w3.cell? ⟨w2.heap.size, 0, none⟩ = some (.int .i64 nx) := cell_below hb3 (cell_drew (by simp [go_sem]))
    have g1 : w3.cell? ⟨w2.heap.size, 1, none⟩ = some (.string f.cls) := cell_below hb3 (cell_drew (by simp [go_sem]))
    have g2 : w3.cell? ⟨w2.heap.size, 2, none⟩ = some (.slice sa vs.length sc) := cell_below hb3 (cell_drew (by simp [go_sem]))
    have hv3 := hv2.below hb3'
    have hsv3 := hsv2.below hb3'
    have hz3 : w2.heap.size < w3.heap.size := Nat.lt_of_lt_of_le (by show w2.heap.size < (w2.alloc _).heap.size; simp) hb3.size
    have hlr : (fs.eraseIdx i).length ≤ 1048576 := Nat.le_trans (by rw [List.length_eraseIdx]; split <;> omega) hl
    clear HA2 HR2 HQ2 hb3 hb3' hn2 hv2 hsv2 hkok hkg q0 q1 q2 q3 t1 t2 c1
    obtain ⟨q0, q1, q2, q3⟩ := st_cells HA3.out
    generalize hT : twinOf sg tag f.cls vs fs = T at hTp
    by_cases ht : 0 < T
    · have HE := hidden' (mdSome_dup (nx := nx) (cp := cp) (i := i) hT ht)
      have htb : (T != 0) = true := by simp; omega
      clear hT
      go_wp2_with (first | (go_at_call 168; refine (refuse_any (some ⟨b, o, none⟩) c fs nx cp sg 2 T w3 hv3 hl hsl).mono ?_; rintro e w4 ⟨⟨a4, c4, xs4, rfl, ho4⟩, hb4⟩) | (refine wpList_store_blk (by rfl) 33 (.tmp 4) (.tmp 51) (by rfl) (w.heap.size + 1 + 1) (C6.cells ⟨fs, nx, cp, sg, 2, T⟩ a4 c4) (by rfl) (by rfl) R 33 (blk_below HR3.out hb4) hRs infoC (C6.one _ _ _) ?_; intro w5 hh5 ht5) | fail)
      try go_frame
      refine bodyPost_ret (v := C6.val ⟨fs, nx, cp, sg, 2, T⟩ a4 c4) (by simp [results, Try.results122, asAddr, C6.load hh5.out]) rfl ?_
      rw [HM.out, HE.out]
      exact ⟨⟨a4, c4, xs4, rfl, (ho4.kept (fun g hg => ht5.out.block g (by have := (ho4.range hg).1; omega))).lower hB3.size⟩, (hB3.trans (hb4.mono hB3.size)).trans (ht5.out.below (by omega))⟩
    · have hT0 : T = 0 := by omega
      subst hT0
      by_cases hnx : 1000000 < nx
      · have HE := hidden' (mdSome_end (cp := cp) (i := i) hT ht hnx)
        clear hT
        go_wp2_with (first | (go_at_call 168; refine (refuse_any (some ⟨b, o, none⟩) c fs nx cp sg 4 0 w3 hv3 hl hsl).mono ?_; rintro e w4 ⟨⟨a4, c4, xs4, rfl, ho4⟩, hb4⟩) | (refine wpList_store_blk (by rfl) 33 (.tmp 4) (.tmp 56) (by rfl) (w.heap.size + 1 + 1) (C6.cells ⟨fs, nx, cp, sg, 4, 0⟩ a4 c4) (by rfl) (by rfl) R 33 (blk_below HR3.out hb4) hRs infoC (C6.one _ _ _) ?_; intro w5 hh5 ht5) | fail)
        try go_frame
        refine bodyPost_ret (v := C6.val ⟨fs, nx, cp, sg, 4, 0⟩ a4 c4) (by simp [results, Try.results122, asAddr, C6.load hh5.out]) rfl ?_
        rw [HM.out, HE.out]
        exact ⟨⟨a4, c4, xs4, rfl, (ho4.kept (fun g hg => ht5.out.block g (by have := (ho4.range hg).1; omega))).lower hB3.size⟩, (hB3.trans (hb4.mono hB3.size)).trans (ht5.out.below (by omega))⟩
      · have HE := hidden' (mdSome_ok (cp := cp) (i := i) hT ht hnx)
        clear hT
        go_wp2_with fail
        go_region_held3 (fun w' => w'.cell? ⟨w.heap.size, 0, none⟩ = some (.slice (some ⟨b, o, none⟩) fs.length c) ∧ w'.cell? ⟨w.heap.size, 1, none⟩ = some (.int .i64 nx) ∧ w'.cell? ⟨w.heap.size, 2, none⟩ = some (.int .i64 cp) ∧ w'.cell? ⟨w.heap.size, 3, none⟩ = some (.bool sg) ∧ w'.cell? ⟨w2.heap.size, 0, none⟩ = some (.int .i64 nx) ∧ w'.cell? ⟨w2.heap.size, 1, none⟩ = some (.string f.cls) ∧ w'.cell? ⟨w2.heap.size, 2, none⟩ = some (.slice sa vs.length sc))
          ((go_split_ands; refine ⟨?_, ?_, ?_, ?_, ?_, ?_, ?_⟩ <;> first | ((with_reducible refine cell_set (cell_set (cell_set (cell_set (cell_set (cell_set ?_ ?_ _) ?_ _) ?_ _) ?_ _) ?_ _) ?_ _) <;> first | with_reducible assumption | (dsimp only; omega)) | (with_reducible refine cellB hb5 ?_ (by assumption); show _ < w3.heap.size; omega) | with_reducible exact cell_below hb4 (by assumption) | with_reducible exact cell_drew (by assumption)))
          (first | (go_at_call 172; refine (without_any (some ⟨b, o, none⟩) c fs nx cp sg i _ (hv3.below ?_) hc hl hsl hil).mono ?_; exact (Below.refl _ _).drew; rintro e w4 ⟨⟨a4, c4, xs4, rfl, ho4⟩, hb4⟩) | (go_at_call 170; refine (plus_any a4 c4 (fs.eraseIdx i) xs4 nx cp sg ⟨nx, f.cls, vs⟩ sa sc w3.heap.size w4 ho4 (hsv3.below ?_) hlr hvl hb4.size (by show 0 ≤ nx; omega) (by show nx ≤ 1000000; omega)).mono ?_; exact (Below.refl _ _).drew.trans hb4; rintro e w5 ⟨⟨a5, c5, xs5, rfl, ho5⟩, hb5⟩; dsimp only [C6.val]; obtain ⟨x0, x1, x2, x3, x4, x5, y0, y1, y2, y3, y4, y5, z0, z1, z2, z3, z4, z5⟩ := six (b := w.heap.size + 1 + 1) ((hb5.block _ (by omega)).trans (blk_below (w := w3.drew) HR3.out hb4)) hRs) | fail)
        go_wp2
        refine bodyPost_ret (v := C6.val ⟨fs.eraseIdx i ++ [⟨nx, f.cls, vs⟩], nx + 1, cp, sg, 0, nx⟩ a5 c5) (by simp [results, Try.results122, go_sem, C6.val, *]) rfl ?_
        rw [HM.out, HE.out]
        refine ⟨⟨a5, c5, xs5, rfl, ?_⟩, ?_⟩
        · exact ((((((ho5.set (by simp; omega) _).set (by simp; omega) _).set (by simp; omega) _).set (by simp; omega) _).set (by simp; omega) _).set (by simp; omega) _).lower hB3.size
        · have hB5 : Below w.heap.size w w5 := (hB3.drew.trans (hb4.mono hB3.size)).trans (hb5.mono hB3.size)
          exact (((((hB5.setCell (by simp; omega) _).setCell (by simp; omega) _).setCell (by simp; omega) _).setCell (by simp; omega) _).setCell (by simp; omega) _).setCell (by simp; omega) _
end Go.Proofs.Ytgamdkokmkagaaa

namespace Go.Proofs.Ytgamdkokmkagaaa
open Go.RowKit Go.Maps
attribute [local go_sem ↓] Go.wp_at_zero Go.wp_at_succ

theorem modify_any (a : Option Addr) (c : Nat) (fs : List F) (nx cp : Int) (sg : Bool) (cls : ByteArray) (tag : Int) (sa : Option Addr) (sc : Nat) (vs : List V) (w : World) (hv : FactsAt w a fs) (hsv : ValsAt w sa vs) (hc : fs.length ≤ c) (hl : fs.length ≤ 1048576) (hs : ∀ f ∈ fs, Sized f) (hr : ∀ f ∈ fs, Read f) (hwt : (Lit.int .i64 tag).wf = true) (hvl : vs.length ≤ 1048576) (hvs : ∀ v ∈ vs, VOk v) :
    Calls Try.prog 122 #[.agg #[.slice a fs.length c, .int .i64 nx, .int .i64 cp, .bool sg], .agg #[.string cls, .int .i64 tag, .slice sa vs.length sc]] w fun e w' =>
      (∃ a' c' xs, e = .returned ((mdfy fs nx cp sg tag vs).val a' c') ∧ OFs w' w.heap.size (.slice a' (mdfy fs nx cp sg tag vs).fs.length c') (mdfy fs nx cp sg tag vs).fs.length (mdfy fs nx cp sg tag vs).fs xs) ∧ Below w.heap.size w w' := by
  cases h : (sValid fs nx cp sg && gSlots vs)
  · rw [mdfy_bad h]
    exact modify_bad a c fs nx cp sg cls tag sa sc vs w hv hsv hl hs hr hvl (fun v h => (hvs v h).2.2) h
  · simp only [Bool.and_eq_true] at h
    exact modify_ok a c fs nx cp sg cls tag sa sc vs w hv hsv hc hl hs hr hwt hvl hvs h.1 h.2

set_option maxRecDepth 100000 in
set_option maxHeartbeats 1600000 in
theorem iModify_any (a : Option Addr) (c : Nat) (fs : List F) (nx cp : Int) (sg : Bool) (tag : Int) (sa : Option Addr) (sc : Nat) (vs : List V) (w : World) (hv : FactsAt w a fs) (hsv : ValsAt w sa vs) (hc : fs.length ≤ c) (hl : fs.length ≤ 1048576) (hs : ∀ f ∈ fs, Sized f) (hr : ∀ f ∈ fs, Read f) (hwt : (Lit.int .i64 tag).wf = true) (hvl : vs.length ≤ 1048576) (hvs : ∀ v ∈ vs, VOk v) :
    Calls Try.prog 15 #[.agg #[.slice a fs.length c, .int .i64 nx, .int .i64 cp, .bool sg], .int .i64 tag, .slice sa vs.length sc] w fun e w' =>
      (∃ a' c' xs, e = .returned ((mdfy fs nx cp sg tag vs).val a' c') ∧ OFs w' w.heap.size (.slice a' (mdfy fs nx cp sg tag vs).fs.length c') (mdfy fs nx cp sg tag vs).fs.length (mdfy fs nx cp sg tag vs).fs xs) ∧ Below w.heap.size w w' := by
  have B2 : ∀ o o', Below w.heap.size w ((w.alloc o).alloc o') := fun o o' => ((Below.refl _ _).alloc (Nat.le_refl _) _).alloc (by simp) _
  go_enter Try.func15, Try.ntmps15
  go_wp2_with fail
  go_region_held3 (fun w' => w'.cell? ⟨w.heap.size, 0, none⟩ = some (.slice a fs.length c) ∧ w'.cell? ⟨w.heap.size, 1, none⟩ = some (.int .i64 nx) ∧ w'.cell? ⟨w.heap.size, 2, none⟩ = some (.int .i64 cp) ∧ w'.cell? ⟨w.heap.size, 3, none⟩ = some (.bool sg))
    ((go_split_ands; refine ⟨?_, ?_, ?_, ?_⟩ <;> first | ((with_reducible refine cell_set (cell_set (cell_set (cell_set (cell_set (cell_set ?_ ?_ _) ?_ _) ?_ _) ?_ _) ?_ _) ?_ _) <;> first | with_reducible assumption | (dsimp only; omega)) | with_reducible exact cell_below hb2 (by assumption) | with_reducible exact cell_below hb1 (by assumption) | (simp [go_sem]; done)))
    (first | (go_at_call 64; refine (changeBy_any 3 _ (by omega) rfl _).mono ?_; rintro e w1 ⟨rfl, hb1⟩) | (go_at_call 122; refine (modify_any a c fs nx cp sg ByteArray.empty tag sa sc vs _ (hv.below ?_) (hsv.below ?_) hc hl hs hr hwt hvl hvs).mono ?_; exact (B2 _ _).drew.trans (hb1.mono (by simp; omega)); exact (B2 _ _).drew.trans (hb1.mono (by simp; omega)); rintro e w2 ⟨⟨a2, c2, xs2, rfl, ho2⟩, hb2⟩; dsimp only [C6.val]; obtain ⟨x0, x1, x2, x3, x4, x5, y0, y1, y2, y3, y4, y5, z0, z1, z2, z3, z4, z5⟩ := six (b := w.heap.size + 1) (t := 33) ((hb2.block _ (Nat.lt_of_lt_of_le (by simp) hb1.size)).trans ((hb1.block _ (by simp)).trans (new_blk _ _ _ (by simp)))) rfl) | fail)
  go_wp2
  have hB1 : Below w.heap.size w w1 := (B2 _ _).drew.trans (hb1.mono (by simp; omega))
  have hz : w.heap.size + 1 + 1 ≤ w1.heap.size := by have := hb1.size; simpa using this
  refine bodyPost_ret (v := (mdfy fs nx cp sg tag vs).val a2 c2) (by simp [results, Try.results15, go_sem, C6.val, *]) rfl ⟨⟨a2, c2, xs2, rfl, ?_⟩, ?_⟩
  · exact ((((((ho2.set (by simp; omega) _).set (by simp; omega) _).set (by simp; omega) _).set (by simp; omega) _).set (by simp; omega) _).set (by simp; omega) _).lower hB1.size
  · exact ((((((hB1.trans (hb2.mono hB1.size)).setCell (by simp) _).setCell (by simp) _).setCell (by simp) _).setCell (by simp) _).setCell (by simp) _).setCell (by simp) _
end Go.Proofs.Ytgamdkokmkagaaa
