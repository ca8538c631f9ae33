/-
  OUR OWN TEXT. What Assert tells, as plain data; the model's Assert.
-/
import Derived.Test.YtgamdkokmkagaaaPutm
namespace Go.Proofs.Ytgamdkokmkagaaa
open Go.RowKit
attribute [local go_sem ↓] Go.wp_at_zero Go.wp_at_succ

def asOk (fs : List F) (nx cp : Int) (sg : Bool) (cls : ByteArray) (vs : List V) : C6 :=
  if 0 < twinOf sg 0 cls vs fs then ⟨fs, nx, cp, sg, 2, twinOf sg 0 cls vs fs⟩ else if (fs.length : Int) = cp then ⟨fs, nx, cp, sg, 3, 0⟩ else if 1000000 < nx then ⟨fs, nx, cp, sg, 4, 0⟩ else ⟨fs ++ [⟨nx, cls, vs⟩], nx + 1, cp, sg, 0, nx⟩
def asrt (fs : List F) (nx cp : Int) (sg : Bool) (cls : ByteArray) (vs : List V) : C6 :=
  if sValid fs nx cp sg && (gSym cls.data.toList && gSlots vs) then asOk fs nx cp sg cls vs else C6.bad
theorem asrt_bad {fs : List F} {nx cp : Int} {sg : Bool} {cls : ByteArray} {vs : List V} (h : (sValid fs nx cp sg && (gSym cls.data.toList && gSlots vs)) = false) : asrt fs nx cp sg cls vs = C6.bad := by unfold asrt; rw [h]; rfl
theorem asrt_ok {fs : List F} {nx cp : Int} {sg : Bool} {cls : ByteArray} {vs : List V} (h1 : sValid fs nx cp sg = true) (h2 : gSym cls.data.toList = true) (h3 : gSlots vs = true) : asrt fs nx cp sg cls vs = asOk fs nx cp sg cls vs := by unfold asrt; rw [h1, h2, h3]; rfl
theorem sValid_head {fs : List F} {nx cp : Int} {sg : Bool} (h : sValid fs nx cp sg = true) : 0 ≤ cp ∧ cp ≤ 40 ∧ (fs.length : Int) ≤ cp ∧ 1 ≤ nx ∧ nx ≤ 1000001 := by
  simp only [sValid, sHead, Bool.and_eq_true, decide_eq_true_eq] at h
  omega
theorem bad_blk {w : World} {b : Nat} {r : Array Value} {t : TypeId} (h : w.heap[b]? = some (.cells r t (0, 0))) (hs : r.size = 6) : ∃ r' : Array Value, w.heap[b]? = some (.cells r' t (0, 0)) ∧ r'.size = 6 := ⟨r, h, hs⟩

set_option maxRecDepth 100000 in
set_option maxHeartbeats 1600000 in
theorem sAssert_bad (a : Option Addr) (c : Nat) (fs : List F) (nx cp : Int) (sg : Bool) (cls : ByteArray) (sa : Option Addr) (sc : Nat) (vs : List V) (w : World) (hv : FactsAt w a fs) (hsv : ValsAt w sa vs) (hc : fs.length ≤ c) (hl : fs.length ≤ 1048576) (hs : ∀ f ∈ fs, Sized f) (hcs : cls.size ≤ maxLen) (hvl : vs.length ≤ 1048576) (hvs : ∀ v ∈ vs, v.sym.size ≤ maxLen) (hbad : (sValid fs nx cp sg && (gSym cls.data.toList && gSlots vs)) = false) :
    Calls Try.prog 24 #[.agg #[.slice a fs.length c, .int .i64 nx, .int .i64 cp, .bool sg], .string cls, .slice sa vs.length sc] w fun e w' =>
      (∃ a' c', e = .returned (C6.bad.val a' c') ∧ FactsAt w' a' C6.bad.fs ∧ C6.bad.fs.length ≤ c') ∧ Below w.heap.size w w' := by
  have B2 : ∀ o o', Below w.heap.size w ((w.alloc o).alloc o') := fun o o' => ((Below.refl _ _).alloc (Nat.le_refl _) _).alloc (by simp) _
  cases hva : sValid fs nx cp sg
  · clear hbad
    go_enter Try.func24, Try.ntmps24
    go_wp2_with (go_at_call 20; refine (sStoreValid_any a c fs nx cp sg _ (hv.below (B2 _ _)) hc hl hs).mono ?_; rintro e w1 ⟨rfl, hb1⟩; obtain ⟨hc1, hf1⟩ := bcell hb1)
    refine bodyPost_ret (v := C6.bad.val none 0) (by simp [results, Try.results24, go_sem, hc1, C6.val, C6.bad]) rfl ⟨⟨none, 0, rfl, fun i f hf => by simp [C6.bad] at hf, Nat.zero_le _⟩, ?_⟩
    have hB : Below w.heap.size w w1 := (B2 _ _).trans (hb1.mono (by simp; omega))
    exact (((((hB.setCell (by simp) _).setCell (by simp) _).setCell (by simp) _).setCell (by simp) _).setCell (by simp) _).setCell (by simp) _
  · rw [hva, Bool.true_and] at hbad
    cases hgs : gSym cls.data.toList
    · clear hbad
      go_enter Try.func24, Try.ntmps24
      go_wp2_with (first | (go_at_call 20; refine (sStoreValid_any a c fs nx cp sg _ (hv.below (B2 _ _)) hc hl hs).mono ?_; rintro e w1 ⟨rfl, hb1⟩; obtain ⟨hc1, hf1⟩ := bcell hb1) | (go_at_call 70; refine (l1GoodSym_any cls _ hcs).mono ?_; rintro e w' ⟨rfl, rfl⟩) | fail)
      refine bodyPost_ret (v := C6.bad.val none 0) (by simp [results, Try.results24, go_sem, hc1, C6.val, C6.bad]) rfl ⟨⟨none, 0, rfl, fun i f hf => by simp [C6.bad] at hf, Nat.zero_le _⟩, ?_⟩
      have hB : Below w.heap.size w _ := (B2 _ _).trans (hb1.mono (by simp; omega))
      exact (((((hB.setCell (by simp) _).setCell (by simp) _).setCell (by simp) _).setCell (by simp) _).setCell (by simp) _).setCell (by simp) _
    · rw [hgs, Bool.true_and] at hbad
      go_enter Try.func24, Try.ntmps24
      go_wp2_with (first | (go_at_call 20; refine (sStoreValid_any a c fs nx cp sg _ (hv.below (B2 _ _)) hc hl hs).mono ?_; rintro e w1 ⟨rfl, hb1⟩; obtain ⟨hc1, hf1⟩ := bcell hb1; have hB1 : Below w.heap.size w w1 := ((B2 _ _).trans (hb1.mono (by simp; omega))); have hz1 : w.heap.size + 1 < w1.heap.size := Nat.lt_of_lt_of_le (by simp) hb1.size) | (go_at_call 70; refine (l1GoodSym_any cls _ hcs).mono ?_; rintro e w' ⟨rfl, rfl⟩) | (go_at_call 71; refine (l1GoodSlots_any sa sc vs _ (hsv.below hB1) hvl hvs).mono ?_; rintro e w2 ⟨rfl, hb2⟩; obtain ⟨hc2, hf2⟩ := bcell hb2) | fail)
      refine bodyPost_ret (v := C6.bad.val none 0) (by simp [results, Try.results24, go_sem, hc1, hc2, hz1, C6.val, C6.bad]) rfl ⟨⟨none, 0, rfl, fun i f hf => by simp [C6.bad] at hf, Nat.zero_le _⟩, ?_⟩
      have hB : Below w.heap.size w w2 := hB1.trans (hb2.mono hB1.size)
      exact (((((hB.setCell (by simp) _).setCell (by simp) _).setCell (by simp) _).setCell (by simp) _).setCell (by simp) _).setCell (by simp) _

set_option maxRecDepth 100000 in
set_option maxHeartbeats 3200000 in
theorem sAssert_ok (a : Option Addr) (c : Nat) (fs : List F) (nx cp : Int) (sg : Bool) (cls : ByteArray) (sa : Option Addr) (sc : Nat) (vs : List V) (w : World) (hv : FactsAt w a fs) (hsv : ValsAt w sa vs) (hc : fs.length ≤ c) (hl : fs.length ≤ 1048576) (hs : ∀ f ∈ fs, Sized f) (hcs : cls.size ≤ maxLen) (hvl : vs.length ≤ 1048576) (hvs : ∀ v ∈ vs, v.sym.size ≤ maxLen) (hva : sValid fs nx cp sg = true) (hgs : gSym cls.data.toList = true) (hgv : gSlots vs = true) :
    Calls Try.prog 24 #[.agg #[.slice a fs.length c, .int .i64 nx, .int .i64 cp, .bool sg], .string cls, .slice sa vs.length sc] w fun e w' =>
      (∃ a' c', e = .returned ((asOk fs nx cp sg cls vs).val a' c') ∧ FactsAt w' a' (asOk fs nx cp sg cls vs).fs ∧ (asOk fs nx cp sg cls vs).fs.length ≤ c') ∧ Below w.heap.size w w' := by
  have B2 : ∀ o o', Below w.heap.size w ((w.alloc o).alloc o') := fun o o' => ((Below.refl _ _).alloc (Nat.le_refl _) _).alloc (by simp) _
  have hsl : ∀ f ∈ fs, f.slots.length ≤ 1048576 := fun f hf => (hs f hf).2.1
  obtain ⟨n1, n2, n3, n4, n5⟩ := sValid_head hva
  go_enter Try.func24, Try.ntmps24
  go_wp2_with (first | (go_at_call 20; refine (sStoreValid_any a c fs nx cp sg _ (hv.below (B2 _ _)) hc hl hs).mono ?_; rintro e w0 ⟨rfl, hb0⟩; obtain ⟨hc0, hf0⟩ := bcell hb0; have hB0 : Below w.heap.size w w0 := ((B2 _ _).trans (hb0.mono (by simp; omega))); have hz0 : w.heap.size + 1 < w0.heap.size := Nat.lt_of_lt_of_le (by simp) hb0.size; have hz0' : w.heap.size < w0.heap.size := (by omega)) | (go_at_call 70; refine (l1GoodSym_any cls _ hcs).mono ?_; rintro e w' ⟨rfl, rfl⟩) | (go_at_call 71; refine (l1GoodSlots_any sa sc vs _ (hsv.below hB0) hvl hvs).mono ?_; rintro e w1 ⟨rfl, hb1⟩; obtain ⟨hc1, hf1⟩ := bcell hb1) | fail)
  have hB1 : Below w.heap.size w w1 := hB0.trans (hb1.mono hB0.size)
  have hz1 : w.heap.size + 1 < w1.heap.size := Nat.lt_of_lt_of_le hz0 hb1.size
  obtain ⟨R, hR, hRs⟩ : ∃ R : Array Value, w1.heap[w.heap.size + 1]? = some (.cells R 33 (0, 0)) ∧ R.size = 6 := ⟨_, (hb1.block _ hz0).trans ((hb0.block _ (by simp)).trans (new_blk _ _ _ (by simp))), rfl⟩
  have HA1 : w1.heap[w.heap.size]? = some (.cells (stC a fs.length c nx cp sg).toArray 26 (0, 0)) := (hb1.block _ hz0').trans ((hb0.block _ (by simp; omega)).trans ((Below.heap_alloc _ _ _ (by simp)).trans (new_blk _ _ _ rfl)))
  clear hc0 hf0 hc1 hf1
  refine (l1Copy_any a c fs nx cp sg w1 (hv.below hB1) hl hsl).mono ?_
  rintro e w2 ⟨⟨a2, c2, xs2, rfl, ho2⟩, hb2⟩
  have HA2 := hidden' (blk_below HA1 hb2)
  have HR2 := hidden' (blk_below hR hb2)
  have hB2 : Below w.heap.size w w2 := hB1.trans (hb2.mono hB1.size)
  have hz2 := hb2.size
  clear HA1 hR
  go_wp2_with (first | (refine wpList_store_blk (by rfl) 26 (.tmp 7) (.tmp 24) (by rfl) w2.heap.size (stC a2 fs.length c2 nx cp sg) (by rfl) (by rfl) _ 26 (new_blk _ _ _ rfl) (by rfl) infoIS (stC_one _ _ _ _ _ _) ?_; intro w2' hh2 ht2; have HA2' := hidden' (blk_new HA2.out ht2.out)) | (refine wpList_load_blk (by rfl) 26 (.tmp 3) (by rfl) w.heap.size (stC a fs.length c nx cp sg) (by rfl) 26 (0, 0) HA2'.out _ Try.underlying26 (by rfl) infoIS ?_) | fail)
  have hn2 := new_below ht2.out
  have hz2' := new_size ht2.out
  have hB2' : Below w.heap.size w w2' := hB2.trans (hn2.mono hB2.size)
  have HR2' := hidden' (blk_new HR2.out ht2.out)
  have HO2' := hidden' (ho2.below hn2)
  clear ht2 HA2 HR2 ho2 hn2
  refine (l1Alike_any a c fs nx cp sg 0 cls sa sc vs w2' (hv.below hB2') (hsv.below hB2') hl hsl).mono ?_
  rintro e w3 ⟨rfl, hb3⟩
  have HA3 := hidden' (blk_below HA2'.out hb3)
  have HC3 := hidden' (blk_below hh2.out hb3)
  have HR3 := hidden' (blk_below HR2'.out hb3)
  have HO3 := hidden' (HO2'.out.below hb3)
  have hB3 : Below w.heap.size w w3 := hB2'.trans (hb3.mono hB2'.size)
  have hz3 := hb3.size
  have hsv3 := hsv.below hB3
  obtain ⟨q0, q1, q2, q3⟩ := st_cells HA3.out
  obtain ⟨p0, p1, p2, p3⟩ := st_cells HC3.out
  clear HA2' HR2' HO2' hh2 hb3 hv hsv hs
  generalize hT : twinOf sg 0 cls vs fs = T
  by_cases ht : 0 < T
  · have HE := hidden' (show asOk fs nx cp sg cls vs = ⟨fs, nx, cp, sg, 2, T⟩ by unfold asOk; rw [hT, if_pos ht])
    clear hT
    go_wp2_with (first | (refine wpList_store_blk (by rfl) 33 (.tmp 6) (.tmp 34) (by rfl) (w.heap.size + 1) (C6.cells ⟨fs, nx, cp, sg, 2, T⟩ a2 c2) (by rfl) (by rfl) R 33 HR3.out hRs infoC (C6.one _ _ _) ?_; intro w4 hh4 ht4) | fail)
    try go_frame
    refine bodyPost_ret (v := C6.val ⟨fs, nx, cp, sg, 2, T⟩ a2 c2) (by simp [results, Try.results24, asAddr, C6.load hh4.out]) rfl ?_
    rw [HE.out]
    exact ⟨⟨a2, c2, rfl, (HO3.out.kept (fun g hg => ht4.out.block g (by have := (HO3.out.range hg).1; omega))).at, own_cap HO3.out.own⟩, hB3.trans (ht4.out.below (by omega))⟩
  · by_cases hfull : (fs.length : Int) = cp
    · have HE := hidden' (show asOk fs nx cp sg cls vs = ⟨fs, nx, cp, sg, 3, 0⟩ by unfold asOk; rw [hT, if_neg ht, if_pos hfull])
      have hfb : ((fs.length : Int) == cp) = true := by simpa using hfull
      clear hT
      go_wp2_with (first | (refine wpList_store_blk (by rfl) 33 (.tmp 6) (.tmp 43) (by rfl) (w.heap.size + 1) (C6.cells ⟨fs, nx, cp, sg, 3, 0⟩ a2 c2) (by rfl) (by rfl) R 33 HR3.out hRs infoC (C6.one _ _ _) ?_; intro w4 hh4 ht4) | fail)
      try go_frame
      refine bodyPost_ret (v := C6.val ⟨fs, nx, cp, sg, 3, 0⟩ a2 c2) (by simp [results, Try.results24, asAddr, C6.load hh4.out]) rfl ?_
      rw [HE.out]
      exact ⟨⟨a2, c2, rfl, (HO3.out.kept (fun g hg => ht4.out.block g (by have := (HO3.out.range hg).1; omega))).at, own_cap HO3.out.own⟩, hB3.trans (ht4.out.below (by omega))⟩
    · have hfb : ((fs.length : Int) == cp) = false := by simpa using hfull
      by_cases hnx : 1000000 < nx
      · have HE := hidden' (show asOk fs nx cp sg cls vs = ⟨fs, nx, cp, sg, 4, 0⟩ by unfold asOk; rw [hT, if_neg ht, if_neg hfull, if_pos hnx])
        clear hT
        go_wp2_with (first | (refine wpList_store_blk (by rfl) 33 (.tmp 6) (.tmp 49) (by rfl) (w.heap.size + 1) (C6.cells ⟨fs, nx, cp, sg, 4, 0⟩ a2 c2) (by rfl) (by rfl) R 33 HR3.out hRs infoC (C6.one _ _ _) ?_; intro w4 hh4 ht4) | fail)
        try go_frame
        refine bodyPost_ret (v := C6.val ⟨fs, nx, cp, sg, 4, 0⟩ a2 c2) (by simp [results, Try.results24, asAddr, C6.load hh4.out]) rfl ?_
        rw [HE.out]
        exact ⟨⟨a2, c2, rfl, (HO3.out.kept (fun g hg => ht4.out.block g (by have := (HO3.out.range hg).1; omega))).at, own_cap HO3.out.own⟩, hB3.trans (ht4.out.below (by omega))⟩
      · have HE := hidden' (show asOk fs nx cp sg cls vs = ⟨fs ++ [⟨nx, cls, vs⟩], nx + 1, cp, sg, 0, nx⟩ by unfold asOk; rw [hT, if_neg ht, if_neg hfull, if_neg hnx])
        clear hT
        go_wp2_with (first | fail)
        refine (l1Put_any a2 c2 fs xs2 nx cp sg cls sa sc vs _ w1.heap.size w3 HO3.out.pfs (fun b hb => hb.2.1) hsv3 hl hvl (by omega) (by omega) (by omega)).mono ?_
        rintro e w5 ⟨⟨a5, c5, rfl, hon5, hcap5⟩, hb5⟩
        have HR5 := hidden' ((hb5.block (w.heap.size + 1) hz1).trans HR3.out)
        go_wp2_with (first | (refine wpList_store_blk (by rfl) 33 (.tmp 6) (.tmp 53) (by rfl) (w.heap.size + 1) (C6.cells ⟨fs ++ [⟨nx, cls, vs⟩], nx + 1, cp, sg, 0, nx⟩ a5 c5) (by rfl) (by rfl) R 33 HR5.out hRs infoC (C6.one _ _ _) ?_; intro w4 hh4 ht4) | fail)
        try go_frame
        refine bodyPost_ret (v := C6.val ⟨fs ++ [⟨nx, cls, vs⟩], nx + 1, cp, sg, 0, nx⟩ a5 c5) (by simp [results, Try.results24, asAddr, C6.load hh4.out]) rfl ?_
        rw [HE.out]
        refine ⟨⟨a5, c5, rfl, ?_, by rw [List.length_append]; exact hcap5⟩, (hB3.trans (hb5.mono hB1.size)).trans (ht4.out.below (by omega))⟩
        exact (hon5.kept (fun b hz _ => ht4.out.block b (by rcases hz with hz | hz <;> omega))).at

theorem sAssert_cap (a : Option Addr) (c : Nat) (fs : List F) (nx cp : Int) (sg : Bool) (cls : ByteArray) (sa : Option Addr) (sc : Nat) (vs : List V) (w : World) (hv : FactsAt w a fs) (hsv : ValsAt w sa vs) (hc : fs.length ≤ c) (hl : fs.length ≤ 1048576) (hs : ∀ f ∈ fs, Sized f) (hcs : cls.size ≤ maxLen) (hvl : vs.length ≤ 1048576) (hvs : ∀ v ∈ vs, v.sym.size ≤ maxLen) :
    Calls Try.prog 24 #[.agg #[.slice a fs.length c, .int .i64 nx, .int .i64 cp, .bool sg], .string cls, .slice sa vs.length sc] w fun e w' =>
      (∃ a' c', e = .returned ((asrt fs nx cp sg cls vs).val a' c') ∧ FactsAt w' a' (asrt fs nx cp sg cls vs).fs ∧ (asrt fs nx cp sg cls vs).fs.length ≤ c') ∧ Below w.heap.size w w' := by
  cases h : (sValid fs nx cp sg && (gSym cls.data.toList && gSlots vs))
  · rw [asrt_bad h]
    exact sAssert_bad a c fs nx cp sg cls sa sc vs w hv hsv hc hl hs hcs hvl hvs h
  · simp only [Bool.and_eq_true] at h
    rw [asrt_ok h.1 h.2.1 h.2.2]
    exact sAssert_ok a c fs nx cp sg cls sa sc vs w hv hsv hc hl hs hcs hvl hvs h.1 h.2.1 h.2.2
theorem sAssert_any (a : Option Addr) (c : Nat) (fs : List F) (nx cp : Int) (sg : Bool) (cls : ByteArray) (sa : Option Addr) (sc : Nat) (vs : List V) (w : World) (hv : FactsAt w a fs) (hsv : ValsAt w sa vs) (hc : fs.length ≤ c) (hl : fs.length ≤ 1048576) (hs : ∀ f ∈ fs, Sized f) (hcs : cls.size ≤ maxLen) (hvl : vs.length ≤ 1048576) (hvs : ∀ v ∈ vs, v.sym.size ≤ maxLen) :
    Calls Try.prog 24 #[.agg #[.slice a fs.length c, .int .i64 nx, .int .i64 cp, .bool sg], .string cls, .slice sa vs.length sc] w fun e w' =>
      (∃ a' c', e = .returned ((asrt fs nx cp sg cls vs).val a' c') ∧ FactsAt w' a' (asrt fs nx cp sg cls vs).fs) ∧ Below w.heap.size w w' :=
  (sAssert_cap a c fs nx cp sg cls sa sc vs w hv hsv hc hl hs hcs hvl hvs).mono fun _ _ ⟨⟨a', c', h1, h2, _⟩, h3⟩ => ⟨⟨a', c', h1, h2⟩, h3⟩
end Go.Proofs.Ytgamdkokmkagaaa
