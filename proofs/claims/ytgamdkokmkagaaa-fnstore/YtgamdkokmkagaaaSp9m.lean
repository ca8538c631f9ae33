/-
  OUR OWN TEXT. The model's Modify.
-/
import Derived.Test.YtgamdkokmkagaaaJx
namespace Go.Proofs.Ytgamdkokmkagaaa
open Go.RowKit
attribute [local go_sem ↓] Go.wp_at_zero Go.wp_at_succ

theorem PFs.kept {Z : Nat → Prop} {w w' : World} {base : Nat} {v : Value} {n : Nat} {fs : List F} {xs : List Value} (h : PFs Z w base v n fs xs) (hk : ∀ b, (Z b ∨ v.ownBlock = some b) → w'.heap[b]? = w.heap[b]?) : PFs Z w' base v n fs xs :=
  ⟨h.num, h.len, owns_of_block h.own (fun g hg => hk g (.inr hg)), fun i f x hf hx => by
    obtain ⟨a, c, e, hv⟩ := h.each i f x hf hx
    exact ⟨a, c, e, hv.kept (fun b hz _ => hk b (.inl hz))⟩, h.apart⟩

set_option maxRecDepth 100000 in
set_option maxHeartbeats 1600000 in
theorem sModify_bad (a : Option Addr) (c : Nat) (fs : List F) (nx cp : Int) (sg : Bool) (tag : Int) (sa : Option Addr) (sc : Nat) (vs : List V) (w : World) (hv : FactsAt w a fs) (hsv : ValsAt w sa vs) (hc : fs.length ≤ c) (hl : fs.length ≤ 1048576) (hs : ∀ f ∈ fs, Sized f) (hvl : vs.length ≤ 1048576) (hvs : ∀ v ∈ vs, v.sym.size ≤ maxLen) (hbad : (sValid fs nx cp sg && gSlots vs) = false) :
    Calls Try.prog 33 #[.agg #[.slice a fs.length c, .int .i64 nx, .int .i64 cp, .bool sg], .int .i64 tag, .slice sa vs.length sc] w fun e w' =>
      (∃ a' c', e = .returned (C6.bad.val a' c') ∧ FactsAt w' a' C6.bad.fs ∧ C6.bad.fs.length ≤ c') ∧ Below w.heap.size w w' := by
  have B2 : ∀ o o', Below w.heap.size w ((w.alloc o).alloc o') := fun o o' => ((Below.refl _ _).alloc (Nat.le_refl _) _).alloc (by simp) _
  cases hva : sValid fs nx cp sg
  · clear hbad
    go_enter Try.func33, Try.ntmps33
    go_wp2_with (go_at_call 20; refine (sStoreValid_any a c fs nx cp sg _ (hv.below (B2 _ _)) hc hl hs).mono ?_; rintro e w1 ⟨rfl, hb1⟩; obtain ⟨hc1, hf1⟩ := bcell hb1)
    refine bodyPost_ret (v := C6.bad.val none 0) (by simp [results, Try.results33, go_sem, hc1, C6.val, C6.bad]) rfl ⟨⟨none, 0, rfl, fun i f hf => by simp [C6.bad] at hf, Nat.zero_le _⟩, ?_⟩
    have hB : Below w.heap.size w w1 := (B2 _ _).trans (hb1.mono (by simp; omega))
    exact (((((hB.setCell (by simp) _).setCell (by simp) _).setCell (by simp) _).setCell (by simp) _).setCell (by simp) _).setCell (by simp) _
  · rw [hva, Bool.true_and] at hbad
    go_enter Try.func33, Try.ntmps33
    go_wp2_with (first | (go_at_call 20; refine (sStoreValid_any a c fs nx cp sg _ (hv.below (B2 _ _)) hc hl hs).mono ?_; rintro e w1 ⟨rfl, hb1⟩; obtain ⟨hc1, hf1⟩ := bcell hb1; have hB1 : Below w.heap.size w w1 := ((B2 _ _).trans (hb1.mono (by simp; omega))); have hz1 : w.heap.size + 1 < w1.heap.size := Nat.lt_of_lt_of_le (by simp) hb1.size) | (go_at_call 71; refine (l1GoodSlots_any sa sc vs _ (hsv.below hB1) hvl hvs).mono ?_; rintro e w2 ⟨rfl, hb2⟩; obtain ⟨hc2, hf2⟩ := bcell hb2) | fail)
    refine bodyPost_ret (v := C6.bad.val none 0) (by simp [results, Try.results33, go_sem, hc1, hc2, hz1, C6.val, C6.bad]) rfl ⟨⟨none, 0, rfl, fun i f hf => by simp [C6.bad] at hf, Nat.zero_le _⟩, ?_⟩
    have hB : Below w.heap.size w w2 := hB1.trans (hb2.mono hB1.size)
    exact (((((hB.setCell (by simp) _).setCell (by simp) _).setCell (by simp) _).setCell (by simp) _).setCell (by simp) _).setCell (by simp) _

set_option maxRecDepth 100000 in
set_option maxHeartbeats 3200000 in
theorem sModify_ok (a : Option Addr) (c : Nat) (fs : List F) (nx cp : Int) (sg : Bool) (tag : Int) (sa : Option Addr) (sc : Nat) (vs : List V) (w : World) (hv : FactsAt w a fs) (hsv : ValsAt w sa vs) (hc : fs.length ≤ c) (hl : fs.length ≤ 1048576) (hs : ∀ f ∈ fs, Sized f) (hvl : vs.length ≤ 1048576) (hvs : ∀ v ∈ vs, v.sym.size ≤ maxLen) (hva : sValid fs nx cp sg = true) (hgv : gSlots vs = true) :
    Calls Try.prog 33 #[.agg #[.slice a fs.length c, .int .i64 nx, .int .i64 cp, .bool sg], .int .i64 tag, .slice sa vs.length sc] w fun e w' =>
      (∃ a' c', e = .returned ((mdfy fs nx cp sg tag vs).val a' c') ∧ FactsAt w' a' (mdfy fs nx cp sg tag vs).fs ∧ (mdfy fs nx cp sg tag vs).fs.length ≤ c') ∧ Below w.heap.size w w' := by
  have B2 : ∀ o o', Below w.heap.size w ((w.alloc o).alloc o') := fun o o' => ((Below.refl _ _).alloc (Nat.le_refl _) _).alloc (by simp) _
  have hsl : ∀ f ∈ fs, f.slots.length ≤ 1048576 := fun f hf => (hs f hf).2.1
  obtain ⟨n1, n2, n3, n4, n5⟩ := sValid_head hva
  go_enter Try.func33, Try.ntmps33
  go_wp2_with (first | (go_at_call 20; refine (sStoreValid_any a c fs nx cp sg _ (hv.below (B2 _ _)) hc hl hs).mono ?_; rintro e w0 ⟨rfl, hb0⟩; obtain ⟨hc0, hf0⟩ := bcell hb0; have hB0 : Below w.heap.size w w0 := ((B2 _ _).trans (hb0.mono (by simp; omega))); have hz0 : w.heap.size + 1 < w0.heap.size := Nat.lt_of_lt_of_le (by simp) hb0.size; have hz0' : w.heap.size < w0.heap.size := (by omega)) | (go_at_call 71; refine (l1GoodSlots_any sa sc vs _ (hsv.below hB0) hvl hvs).mono ?_; rintro e w1 ⟨rfl, hb1⟩; obtain ⟨hc1, hf1⟩ := bcell hb1) | fail)
  have hB1 : Below w.heap.size w w1 := hB0.trans (hb1.mono hB0.size)
  have hz1 : w.heap.size + 1 < w1.heap.size := Nat.lt_of_lt_of_le hz0 hb1.size
  obtain ⟨R, hR, hRs⟩ : ∃ R : Array Value, w1.heap[w.heap.size + 1]? = some (.cells R 33 (0, 0)) ∧ R.size = 6 := ⟨_, (hb1.block _ hz0).trans ((hb0.block _ (by simp)).trans (new_blk _ _ _ (by simp))), rfl⟩
  have HA1 : w1.heap[w.heap.size]? = some (.cells (stC a fs.length c nx cp sg).toArray 26 (0, 0)) := (hb1.block _ hz0').trans ((hb0.block _ (by simp; omega)).trans ((Below.heap_alloc _ _ _ (by simp)).trans (new_blk _ _ _ rfl)))
  clear hc0 hf0 hc1 hf1
  refine (l1Copy_any a c fs nx cp sg w1 (hv.below hB1) hl hsl).mono ?_
  rintro e w2 ⟨⟨a2, c2, xs2, rfl, ho2⟩, hb2⟩
  have HA2 := hidden' (blk_below HA1 hb2)
  have HR2 := hidden' (blk_below hR hb2)
  have hB2 : Below w.heap.size w w2 := hB1.trans (hb2.mono hB1.size)
  have hz2 := hb2.size
  have HZ2 := hidden' ho2.on
  have hcap2 := hidden' (own_cap ho2.own)
  clear HA1 hR hb0 hb1 hb2 ho2
  go_wp2_with (first | (refine wpList_store_blk (by rfl) 26 (.tmp 7) (.tmp 21) (by rfl) w2.heap.size (stC a2 fs.length c2 nx cp sg) (by rfl) (by rfl) _ 26 (new_blk _ _ _ rfl) (by rfl) infoIS (stC_one _ _ _ _ _ _) ?_; intro w2' hh2 ht2; have HA2' := hidden' (blk_new HA2.out ht2.out); obtain ⟨q0, q1, q2, q3⟩ := st_cells HA2'.out) | fail)
  have hn2 := new_below ht2.out
  have hz2' := new_size ht2.out
  have hB2' : Below w.heap.size w w2' := hB2.trans (hn2.mono hB2.size)
  have HR2' := hidden' (blk_new HR2.out ht2.out)
  have HZ2' := hidden' (HZ2.out.kept (w' := w2') (fun b _ hlt => hn2.block b hlt))
  obtain ⟨p0, p1, p2, p3⟩ := st_cells hh2.out
  have hv2 := hv.below hB2'
  have hfind := l1Find_any a c fs tag w2' hv2 hl
  clear ht2 HA2 HR2 HZ2 hn2
  cases hi : fidx tag fs with
  | none =>
    have HE := hidden' (mdfy_none (tag := tag) hva hgv hi)
    rw [hi] at hfind
    refine hfind.mono ?_
    clear hfind hi
    rintro e w3 ⟨rfl, he3⟩
    have he3' := he3.symm
    subst he3'
    go_wp2_with (first | (refine wpList_store_blk (by rfl) 33 (.tmp 6) (.tmp 29) (by rfl) (w.heap.size + 1) (C6.cells ⟨fs, nx, cp, sg, 5, 0⟩ a2 c2) (by rfl) (by rfl) R 33 HR2'.out hRs infoC (C6.one _ _ _) ?_; intro w4 hh4 ht4) | fail)
    try go_frame
    refine bodyPost_ret (v := C6.val ⟨fs, nx, cp, sg, 5, 0⟩ a2 c2) (by simp [results, Try.results33, asAddr, C6.load hh4.out]) rfl ?_
    rw [HE.out]
    exact ⟨⟨a2, c2, rfl, (HZ2'.out.kept (fun b hz _ => ht4.out.block b (by omega))).at, hcap2.out⟩, hB2'.trans (ht4.out.below (by omega))⟩
  | some i =>
    have hil := fidx_lt hi
    obtain ⟨f, hf⟩ : ∃ f, fs[i]? = some f := ⟨fs[i], by simp [hil]⟩
    have HM := hidden' (mdfy_some (tag := tag) hva hgv hi hf)
    have HFE := hidden' (filter_erase (sValid_from hva) hi)
    obtain ⟨b, o, rfl, c0, c1, _⟩ := hv2 i f hf
    rw [hi] at hfind
    refine hfind.mono ?_
    clear hfind hi hf c0
    rintro e w3 ⟨rfl, he3⟩
    have he3' := he3.symm
    subst he3'
    dsimp only [ixInt]
    go_wp2_with fail
    refine (l1Alike_any (some ⟨b, o, none⟩) c fs nx cp sg tag f.cls sa sc vs w2' hv2 (hsv.below hB2') hl hsl).mono ?_
    rintro e w3 ⟨rfl, hb3⟩
    have HA3 := hidden' (blk_below HA2'.out hb3)
    have HC3 := hidden' (blk_below hh2.out hb3)
    have HR3 := hidden' (blk_below HR2'.out hb3)
    have HZ3 := hidden' (HZ2'.out.kept (w' := w3) (fun b _ hlt => hb3.block b hlt))
    have hB3 : Below w.heap.size w w3 := hB2'.trans (hb3.mono hB2'.size)
    have hz3 := hb3.size
    clear q0 q1 q2 q3 p0 p1 p2 p3
    obtain ⟨q0, q1, q2, q3⟩ := st_cells HA3.out
    obtain ⟨p0, p1, p2, p3⟩ := st_cells HC3.out
    clear HA2' HR2' HZ2' hh2 hb3 hv hs c1 hv2
    generalize hT : twinOf sg tag f.cls vs fs = T
    by_cases ht : 0 < T
    · have HE := hidden' (mdSome_dup (nx := nx) (cp := cp) (i := i) hT ht)
      clear hT
      go_wp2_with (first | (refine wpList_store_blk (by rfl) 33 (.tmp 6) (.tmp 46) (by rfl) (w.heap.size + 1) (C6.cells ⟨fs, nx, cp, sg, 2, T⟩ a2 c2) (by rfl) (by rfl) R 33 HR3.out hRs infoC (C6.one _ _ _) ?_; intro w4 hh4 ht4) | fail)
      try go_frame
      refine bodyPost_ret (v := C6.val ⟨fs, nx, cp, sg, 2, T⟩ a2 c2) (by simp [results, Try.results33, asAddr, C6.load hh4.out]) rfl ?_
      rw [HM.out, HE.out]
      exact ⟨⟨a2, c2, rfl, (HZ3.out.kept (fun b hz _ => ht4.out.block b (by omega))).at, hcap2.out⟩, hB3.trans (ht4.out.below (by omega))⟩
    · by_cases hnx : 1000000 < nx
      · have HE := hidden' (mdSome_end (cp := cp) (i := i) hT ht hnx)
        clear hT
        go_wp2_with (first | (refine wpList_store_blk (by rfl) 33 (.tmp 6) (.tmp 52) (by rfl) (w.heap.size + 1) (C6.cells ⟨fs, nx, cp, sg, 4, 0⟩ a2 c2) (by rfl) (by rfl) R 33 HR3.out hRs infoC (C6.one _ _ _) ?_; intro w4 hh4 ht4) | fail)
        try go_frame
        refine bodyPost_ret (v := C6.val ⟨fs, nx, cp, sg, 4, 0⟩ a2 c2) (by simp [results, Try.results33, asAddr, C6.load hh4.out]) rfl ?_
        rw [HM.out, HE.out]
        exact ⟨⟨a2, c2, rfl, (HZ3.out.kept (fun b hz _ => ht4.out.block b (by omega))).at, hcap2.out⟩, hB3.trans (ht4.out.below (by omega))⟩
      · have HE := hidden' (mdSome_ok (cp := cp) (i := i) hT ht hnx)
        clear hT
        have hwo := l1Without_any _ a2 c2 fs tag w3 HZ3.out hl
        rw [HFE.out] at hwo
        go_wp2_with fail
        refine hwo.mono ?_
        rintro e w4 ⟨⟨a4, c4, xs4, rfl, ho4⟩, hb4⟩
        have HP4 := hidden' (ho4.pfs hb4)
        have HR4 := hidden' (blk_below HR3.out hb4)
        have HC4 := hidden' (blk_below HC3.out hb4)
        have hfz : ∀ j, w4.frozen? ⟨w2.heap.size, j, none⟩ = false := fun j => by simp [World.frozen?, HC4.out]
        have hB4 : Below w.heap.size w w4 := hB3.trans (hb4.mono hB3.size)
        have hz4 := hb4.size
        have hlr : (fs.eraseIdx i).length ≤ 1048576 := Nat.le_trans (by rw [List.length_eraseIdx]; split <;> omega) hl
        clear q0 q1 q2 q3 p0 p1 p2 p3 hwo ho4 hb4 HZ3 HR3 HC3 HA3
        obtain ⟨p0, p1, p2, p3⟩ := st_cells HC4.out
        go_wp2_with fail
        have hB5 := fun u => hB4.setCell (p := ⟨w2.heap.size, 0, none⟩) hB2.size u
        refine (l1Put_any a4 c4 (fs.eraseIdx i) xs4 nx cp sg f.cls sa sc vs _ w3.heap.size _ (HP4.out.kept ?_) (fun b hb => ?_) (hsv.below (hB5 _)) hlr hvl ?_ (by omega) (by omega)).mono ?_
        · intro b hb
          refine Below.heap_setCell _ _ _ _ ?_
          show b ≠ w2.heap.size
          rcases hb with hb | hb
          · omega
          · have := (HP4.out.own.lt b hb).1
            omega
        · have := hb.2
          simp
          omega
        · simp
          omega
        rintro e w6 ⟨⟨a6, c6, rfl, hon6, hcap6⟩, hb6⟩
        have HR6 := hidden' ((hb6.block (w.heap.size + 1) (by omega)).trans ((Below.heap_setCell _ ⟨w2.heap.size, 0, none⟩ _ _ (by show w.heap.size + 1 ≠ w2.heap.size; omega)).trans HR4.out))
        go_wp2_with (first | (refine wpList_store_blk (by rfl) 33 (.tmp 6) (.tmp 61) (by rfl) (w.heap.size + 1) (C6.cells ⟨fs.eraseIdx i ++ [⟨nx, f.cls, vs⟩], nx + 1, cp, sg, 0, nx⟩ a6 c6) (by rfl) (by rfl) R 33 HR6.out hRs infoC (C6.one _ _ _) ?_; intro w7 hh7 ht7) | fail)
        try go_frame
        refine bodyPost_ret (v := C6.val ⟨fs.eraseIdx i ++ [⟨nx, f.cls, vs⟩], nx + 1, cp, sg, 0, nx⟩ a6 c6) (by simp [results, Try.results33, asAddr, C6.load hh7.out]) rfl ?_
        rw [HM.out, HE.out]
        refine ⟨⟨a6, c6, rfl, ?_, by rw [List.length_append]; exact hcap6⟩, ((hB5 _).trans (hb6.mono (by have := hB3.size; omega))).trans (ht7.out.below (by omega))⟩
        exact (hon6.kept (fun b hz _ => ht7.out.block b (by rcases hz with hz | hz <;> omega))).at

theorem sModify_cap (a : Option Addr) (c : Nat) (fs : List F) (nx cp : Int) (sg : Bool) (tag : Int) (sa : Option Addr) (sc : Nat) (vs : List V) (w : World) (hv : FactsAt w a fs) (hsv : ValsAt w sa vs) (hc : fs.length ≤ c) (hl : fs.length ≤ 1048576) (hs : ∀ f ∈ fs, Sized f) (hvl : vs.length ≤ 1048576) (hvs : ∀ v ∈ vs, v.sym.size ≤ maxLen) :
    Calls Try.prog 33 #[.agg #[.slice a fs.length c, .int .i64 nx, .int .i64 cp, .bool sg], .int .i64 tag, .slice sa vs.length sc] w fun e w' =>
      (∃ a' c', e = .returned ((mdfy fs nx cp sg tag vs).val a' c') ∧ FactsAt w' a' (mdfy fs nx cp sg tag vs).fs ∧ (mdfy fs nx cp sg tag vs).fs.length ≤ c') ∧ Below w.heap.size w w' := by
  cases h : (sValid fs nx cp sg && gSlots vs)
  · rw [mdfy_bad h]
    exact sModify_bad a c fs nx cp sg tag sa sc vs w hv hsv hc hl hs hvl hvs h
  · simp only [Bool.and_eq_true] at h
    exact sModify_ok a c fs nx cp sg tag sa sc vs w hv hsv hc hl hs hvl hvs h.1 h.2
theorem sModify_any (a : Option Addr) (c : Nat) (fs : List F) (nx cp : Int) (sg : Bool) (tag : Int) (sa : Option Addr) (sc : Nat) (vs : List V) (w : World) (hv : FactsAt w a fs) (hsv : ValsAt w sa vs) (hc : fs.length ≤ c) (hl : fs.length ≤ 1048576) (hs : ∀ f ∈ fs, Sized f) (hvl : vs.length ≤ 1048576) (hvs : ∀ v ∈ vs, v.sym.size ≤ maxLen) :
    Calls Try.prog 33 #[.agg #[.slice a fs.length c, .int .i64 nx, .int .i64 cp, .bool sg], .int .i64 tag, .slice sa vs.length sc] w fun e w' =>
      (∃ a' c', e = .returned ((mdfy fs nx cp sg tag vs).val a' c') ∧ FactsAt w' a' (mdfy fs nx cp sg tag vs).fs) ∧ Below w.heap.size w w' :=
  (sModify_cap a c fs nx cp sg tag sa sc vs w hv hsv hc hl hs hvl hvs).mono fun _ _ ⟨⟨a', c', h1, h2, _⟩, h3⟩ => ⟨⟨a', c', h1, h2⟩, h3⟩
end Go.Proofs.Ytgamdkokmkagaaa
