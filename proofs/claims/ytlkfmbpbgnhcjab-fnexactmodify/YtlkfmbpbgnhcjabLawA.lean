/-
  OUR OWN TEXT. The law FnExactAssert, out of the contracts.
-/
import Derived.Test.YtlkfmbpbgnhcjabAs
namespace Go.Proofs.Ytlkfmbpbgnhcjab
open Go.RowKit
attribute [local go_sem ↓] Go.wp_at_zero Go.wp_at_succ

theorem wt_snoc (l : List F) (f : F) : wt (l ++ [f]) = wt l + 2 + 3 * f.slots.length := by
  unfold wt
  simp only [List.length_append, List.map_append, List.sum_append, List.length_cons, List.length_nil, List.map_cons, List.map_nil, List.sum_cons, List.sum_nil]
  omega

theorem fit_snoc {fs : List F} {f : F} (h : szFs fs ≤ 1048576) (hf : fs.length ≤ 40) (hv : f.slots.length ≤ 1048576) : Fit6 (fs ++ [f]) := by
  have h0 := fit_of h
  refine ⟨by simp; omega, fun g hg => ?_, ?_⟩
  · rcases List.mem_append.1 hg with hg | hg
    · exact h0.slots g hg
    · simp at hg
      subst hg
      exact hv
  · rw [kEnd_wt, wt_snoc]
    have := wt_sz h
    omega

theorem fit_asrt {fs : List F} {nx cp : Int} {sg : Bool} {cls : ByteArray} {vs : List V} (h : szFs fs ≤ 1048576) (hv : vs.length ≤ 1048576) : Fit6 (asrt fs nx cp sg cls vs).fs := by
  have hf := fit_of h
  unfold asrt
  split
  · rename_i hok
    have hva : sValid fs nx cp sg = true := by simp only [Bool.and_eq_true] at hok; exact hok.1
    obtain ⟨_, n2, n3, _, _⟩ := sValid_head hva
    unfold asOk
    split
    · exact hf
    · split
      · exact hf
      · split
        · exact hf
        · exact fit_snoc (f := ⟨nx, cls, vs⟩) h (by omega) hv
  · exact ⟨by simp [C6.bad], fun f hm => by simp [C6.bad] at hm, by simp [C6.bad, kEnd]⟩

/-- What toValueS has made, said so. -/
theorem own_vals {w : World} {g base : Nat} {vs : List V} (h : OwnB w g 90 3 vs.length (vs.map V.cells)) (hb : base ≤ g) (hm : vs.length ≤ 1048576) : w.ownsRow base 90 3 (.slice (some ⟨g, 0, none⟩) vs.length vs.length) vs.length (vs.flatMap V.cells) := by
  have := h.owns hb (by simp) (by unfold maxLen; omega)
  rwa [← List.flatMap_def] at this

set_option maxRecDepth 100000 in
set_option maxHeartbeats 4000000 in
theorem law_as (a : Option Addr) (c : Nat) (fs : List F) (nx cp : Int) (sg : Bool) (cls : ByteArray) (sa : Option Addr) (sc : Nat) (vs : List V) (w : World) (hv : FactsAt w a fs) (ha : Arg fs) (hcm : cls.size ≤ maxLen) (hsv : ValsAt w sa vs) (hvm : vs.length ≤ maxLen) (hvs : ∀ v ∈ vs, VOk v) :
    Calls Try.prog 5 #[.agg #[.slice a fs.length c, .int .i64 nx, .int .i64 cp, .bool sg], .string cls, .slice sa vs.length sc] w fun e w' =>
      e = .returned (.bool true) ∧ Below w.heap.size w w' := by
  have B1 : ∀ o, Below w.heap.size w (w.alloc o) := fun o => (Below.refl _ _).alloc (Nat.le_refl _) _
  obtain ⟨hl0, hs0⟩ := ha
  have hr : ∀ f ∈ fs, Read f := fun f hf => (hs0 f hf).2.2
  have hs1 : ∀ f ∈ fs, f.cls.size ≤ maxLen ∧ f.slots.length ≤ maxLen ∧ ∀ v ∈ f.slots, v.sym.size ≤ maxLen := fun f hf => ⟨(hs0 f hf).1, (hs0 f hf).2.1, fun v hvv => ((hs0 f hf).2.2.2 v hvv).2.2⟩
  have hvs' : ∀ v ∈ vs, v.sym.size ≤ maxLen := fun v h => (hvs v h).2.2
  by_cases hlong : 1048576 < cls.size
  · go_enter Try.func5, Try.ntmps5
    go_wp2
    go_ret
    exact ⟨rfl, B1 _⟩
  have hB1f : ∀ {w1 : World} {o : Obj}, Below (w.alloc o).heap.size (w.alloc o) w1 → Below w.heap.size w w1 := fun hb => (B1 _).trans (hb.mono (by simp))
  go_enter Try.func5, Try.ntmps5
  go_wp2_with (go_at_call 17; refine (szStore_any a c fs nx cp sg 1048576 _ (hv.below (B1 _)) hl0 hs1 (by omega) (by omega)).mono ?_; rintro e w1 ⟨⟨r, rfl, hr1⟩, hb1⟩; have hB1 := hB1f hb1; have HA1 : Hid (w1.heap[w.heap.size]? = some (.cells (stC a fs.length c nx cp sg).toArray 43 (0, 0))) := (hb1.block _ (by simp)).trans (new_blk _ _ _ rfl))
  · go_ret
    exact ⟨rfl, hB1⟩
  have hsz : szFs fs ≤ 1048576 ∧ r ≤ 1048576 := by
    rcases hr1 with h | ⟨_, h⟩
    · omega
    · omega
  have hr0 : 0 ≤ r := by omega
  clear hr1
  refine (szValueS_any sa sc vs r w1 (hsv.below hB1) hvm hvs' hr0 hsz.2).mono ?_
  rintro e w1v ⟨⟨r2, rfl, hr2⟩, hb1v⟩
  have hB1v : Below w.heap.size w w1v := hB1.trans (hb1v.mono hB1.size)
  have HA1v := hidden' (blk_below HA1.out hb1v)
  obtain ⟨q0, q1, q2, q3⟩ := st_cells HA1v.out
  clear HA1 hb1v
  go_wp2_with fail
  · go_ret
    exact ⟨rfl, hB1v⟩
  have hvl : vs.length ≤ 1048576 := by
    have e : vs.length ≤ szVs vs := by unfold szVs; omega
    rcases hr2 with h | ⟨_, h⟩
    · omega
    · omega
  have hcs : cls.size ≤ maxLen := hcm
  have hl := (szFs_le hsz.1).1
  have hs := sized_of hsz.1
  have hsl : ∀ f ∈ fs, f.slots.length ≤ 1048576 := fun f hf => (hs f hf).2.1
  have hfit := fit_of hsz.1
  have hfitR := fit_asrt (nx := nx) (cp := cp) (sg := sg) (cls := cls) hsz.1 hvl
  have hkx1 : kEnd 1 fs + 3 * (vs.length : Int) ≤ 100000000 := by rw [kEnd_wt]; have := wt_sz hsz.1; omega
  have hkx0 : 0 < kEnd 1 fs := by have := kEnd_ge fs 1; omega
  clear q0 q1 q2 q3 hr2 hs1 hs0 hl0
  refine (toStore_any a c fs nx cp sg w1v (hv.below hB1v) hl hsl).mono ?_
  rintro e w2 ⟨⟨g2, gs2, hg2, rfl, ho2⟩, hb2⟩
  have hB2 : Below w.heap.size w w2 := hB1v.trans (hb2.mono hB1v.size)
  have HA2 := hidden' (blk_below HA1v.out hb2)
  go_wp2_with fail
  refine (toValueS_any sa sc vs w2 (hsv.below hB2) hvl).mono ?_
  rintro e w2v ⟨⟨rfl, hov⟩, hb2v⟩
  have hB2v : Below w.heap.size w w2v := hB2.trans (hb2v.mono hB2.size)
  have HA2v := hidden' (blk_below HA2.out hb2v)
  go_wp2_with fail
  refine (sAssert_any (some ⟨g2, 0, none⟩) fs.length fs nx cp sg cls (some ⟨w2.heap.size, 0, none⟩) vs.length vs w2v (ho2.at.below hb2v) (ValsAt.own hov) (Nat.le_refl _) hl hs hcs hvl hvs').mono ?_
  generalize hR : asrt fs nx cp sg cls vs = R at hfitR ⊢
  rintro e w3 ⟨⟨a3, c3, rfl, hv3⟩, hb3⟩
  have HA3 := hidden' (blk_below HA2v.out hb3)
  have hW3 : Below w.heap.size w w3 := hB2v.trans (hb3.mono hB2v.size)
  clear hb2 hb3 ho2 HA1v HA2 HA2v hb2v hov
  go_wp2_with (first | (refine wpList_store_blk (by rfl) 33 (.tmp 8) (.tmp 34) (by rfl) w3.heap.size (R.cells a3 c3) (by rfl) (by rfl) _ 33 (new_blk _ _ _ rfl) (by rfl) infoC (C6.one _ _ _) ?_; intro w3' hh3 ht3; have HA3' := hidden' (blk_new HA3.out ht3.out)) | (refine wpList_load_blk (by rfl) 43 (.tmp 3) (by rfl) w.heap.size (stC a fs.length c nx cp sg) (by rfl) 43 (0, 0) HA3'.out _ Try.underlying43 (by rfl) infoLS ?_) | fail)
  have hz3 := Nat.le_of_eq (new_size ht3.out).symm
  have hW3' : Below w.heap.size w w3' := hW3.trans ((new_below ht3.out).mono hW3.size)
  have hon3 := hv3.on.kept (w' := w3') (fun b _ hlt => (new_below ht3.out).block b hlt)
  have hlA : w.heap.size < w3.heap.size := lt_of_block' HA3.out
  clear ht3 HA3 hv3
  refine (toStore_any a c fs nx cp sg w3' (hv.below hW3') hl hsl).mono ?_
  rintro e w4 ⟨⟨g4, gs4, hg4, rfl, ho4⟩, hb4⟩
  obtain ⟨xs4, hx4⟩ := ho4.ofs (base := w3'.heap.size) hg4 (by unfold maxLen; omega) (fun f hf => by have := hsl f hf; unfold maxLen; omega)
  have HA4 := hidden' (blk_below HA3'.out hb4)
  have HW4 := hidden' (blk_below hh3.out hb4)
  have hon4 := hon3.kept (w' := w4) (fun b _ hlt => hb4.block b hlt)
  have hW4 : Below w.heap.size w w4 := hW3'.trans (hb4.mono hW3'.size)
  have hz4 := hb4.size
  have hR4 := hidden' (fun g (hg : InBlk (.slice (some ⟨g4, 0, none⟩) fs.length fs.length) xs4 g) => hx4.range hg)
  have HX4 := hidden' hx4
  have HN4 := hidden' hon4
  clear ho4 hb4 hh3 HA3' hon3 hx4 hon4
  go_wp2_with (first | (refine wpList_store_blk (by rfl) 26 (.tmp 9) (.tmp 36) (by rfl) w4.heap.size (stC (some ⟨g4, 0, none⟩) fs.length fs.length nx cp sg) (by rfl) (by rfl) _ 26 (new_blk _ _ _ rfl) (by rfl) infoIS (stC_one _ _ _ _ _ _) ?_; intro w4' hh4 ht4) | fail)
  have hz4' := Nat.le_of_eq (new_size ht4.out).symm
  have hn4 := new_below ht4.out
  have HA5' := hidden' (blk_new HA4.out ht4.out)
  have HW5' := hidden' (blk_new HW4.out ht4.out)
  have HX5' := hidden' (HX4.out.below hn4)
  have HN5' := hidden' (HN4.out.kept (w' := w4') (fun b _ hlt => hn4.block b hlt))
  have hW4' : Below w.heap.size w w4' := hW4.trans (hn4.mono hW4.size)
  clear ht4 HA4 HW4 HX4 HN4 hn4
  refine (toValueS_any sa sc vs w4' (hsv.below hW4') hvl).mono ?_
  rintro e w4v ⟨⟨rfl, hov4⟩, hb4v⟩
  have HV5 := hidden' (own_vals (base := w4'.heap.size) hov4 (Nat.le_refl _) hvl)
  have hz4v : w4'.heap.size < w4v.heap.size := hov4.lt
  have HA5 := hidden' (blk_below HA5'.out hb4v)
  have HW5 := hidden' (blk_below HW5'.out hb4v)
  have HB5 := hidden' (blk_below hh4.out hb4v)
  have HX5 := hidden' (HX5'.out.below hb4v)
  have HN5 := hidden' (HN5'.out.kept (w' := w4v) (fun b _ hlt => hb4v.block b hlt))
  have hW4v : Below w.heap.size w w4v := hW4'.trans (hb4v.mono hW4'.size)
  clear hov4 hb4v HA5' HW5' HX5' HN5' hh4
  go_wp2_with (first | (refine wpList_load_blk (by rfl) 26 (.tmp 9) (by rfl) w4.heap.size (stC (some ⟨g4, 0, none⟩) fs.length fs.length nx cp sg) (by rfl) 26 (0, 0) HB5.out _ Try.underlying26 (by rfl) infoIS ?_) | fail)
  have hir := iAssert_any (some ⟨g4, 0, none⟩) fs.length fs nx cp sg cls (some ⟨w4'.heap.size, 0, none⟩) vs.length vs w4v HX5.out.at (ValsAt.owns HV5.out) hl hs hr hcs hvl hvs
  rw [hR] at hir
  refine hir.mono ?_
  clear hir
  rintro e w5 ⟨⟨a5, c5, xs5, rfl, ho5⟩, hb5⟩
  have HA6 := hidden' (blk_below HA5.out hb5)
  have HW6 := hidden' (blk_below HW5.out hb5)
  have HB6 := hidden' (blk_below HB5.out hb5)
  have HX6 := hidden' (HX5.out.below hb5)
  have HV6 := hidden' (owns_of_block HV5.out (fun g hg => hb5.block g (HV5.out.lt g hg).2))
  have HN6 := hidden' (HN5.out.kept (w' := w5) (fun b _ hlt => hb5.block b hlt))
  have hW5 : Below w.heap.size w w5 := hW4v.trans (hb5.mono hW4v.size)
  have hz5 := hb5.size
  have hR5 := hidden' (fun g (hg : InBlk (.slice a5 R.fs.length c5) xs5 g) => ho5.range hg)
  have HG6 := hidden' ho5
  clear HA5 HW5 HB5 HX5 HN5 HV5 hb5 ho5
  go_wp2_with (first | (refine wpList_store_blk (by rfl) 33 (.tmp 11) (.tmp 42) (by rfl) w5.heap.size (R.cells a5 c5) (by rfl) (by rfl) _ 33 (new_blk _ _ _ rfl) (by rfl) infoC (C6.one _ _ _) ?_; intro w5' hh5 ht5; have HW6' := hidden' (blk_new HW6.out ht5.out)) | (refine wpList_load_blk (by rfl) 33 (.tmp 11) (by rfl) w5.heap.size (R.cells a5 c5) (by rfl) 33 (0, 0) hh5.out _ Try.underlying33 (by rfl) infoC ?_) | (refine wpList_load_blk (by rfl) 33 (.tmp 8) (by rfl) w3.heap.size (R.cells a3 c3) (by rfl) 33 (0, 0) HW6'.out _ Try.underlying33 (by rfl) infoC ?_) | fail)
  have hz5' := Nat.le_of_eq (new_size ht5.out).symm
  have hn5 := new_below ht5.out
  have HA7 := hidden' (blk_new HA6.out ht5.out)
  have HB7 := hidden' (blk_new HB6.out ht5.out)
  have HX7 := hidden' (HX6.out.below hn5)
  have HV7 := hidden' (owns_of_block HV6.out (fun g hg => hn5.block g (HV6.out.lt g hg).2))
  have HN7 := hidden' (HN6.out.kept (w' := w5') (fun b _ hlt => hn5.block b hlt))
  have HG7 := hidden' (HG6.out.below hn5)
  have hW5' : Below w.heap.size w w5' := hW5.trans (hn5.mono hW5.size)
  clear ht5 HA6 HW6 HB6 HX6 HN6 HG6 HV6 hn5
  refine (eqChange_same a5 a3 c5 c3 R w5' HG7.out.at HN7.out.at hfitR.len hfitR.slots).mono ?_
  rintro e w6 ⟨rfl, hb6⟩
  have HA8 := hidden' (blk_below HA7.out hb6)
  have HB8 := hidden' (blk_below HB7.out hb6)
  have HW8 := hidden' (blk_below HW6'.out hb6)
  have HC8 := hidden' (blk_below hh5.out hb6)
  have HX8 := hidden' (HX7.out.below hb6)
  have HV8 := hidden' (owns_of_block HV7.out (fun g hg => hb6.block g (HV7.out.lt g hg).2))
  have HN8 := hidden' (HN7.out.kept (w' := w6) (fun b _ hlt => hb6.block b hlt))
  have HG8 := hidden' (HG7.out.below hb6)
  have hW6 : Below w.heap.size w w6 := hW5'.trans (hb6.mono hW5'.size)
  have hz6 := hb6.size
  clear HA7 HB7 HW6' hh5 HX7 HN7 HG7 HV7 hb6
  obtain ⟨q0, q1, q2, q3⟩ := st_cells HA8.out
  obtain ⟨p0, p1, p2, p3⟩ := st_cells HB8.out
  have hv6 := hv.below hW6
  have hx6 := HX8.out.at
  go_wp2_with fail
  go_region_held3 (fun w' => w'.cell? ⟨w.heap.size, 0, none⟩ = some (.slice a fs.length c) ∧ w'.cell? ⟨w.heap.size, 1, none⟩ = some (.int .i64 nx) ∧ w'.cell? ⟨w.heap.size, 2, none⟩ = some (.int .i64 cp) ∧ w'.cell? ⟨w.heap.size, 3, none⟩ = some (.bool sg) ∧ w'.cell? ⟨w4.heap.size, 0, none⟩ = some (.slice (some ⟨g4, 0, none⟩) fs.length fs.length) ∧ w'.cell? ⟨w4.heap.size, 1, none⟩ = some (.int .i64 nx) ∧ w'.cell? ⟨w4.heap.size, 2, none⟩ = some (.int .i64 cp) ∧ w'.cell? ⟨w4.heap.size, 3, none⟩ = some (.bool sg))
    ((go_split_ands; refine ⟨?_, ?_, ?_, ?_, ?_, ?_, ?_, ?_⟩ <;> first | with_reducible exact cell_below hb8 (by assumption) | with_reducible exact cell_below hb7 (by assumption) | with_reducible exact cell_drew (by assumption)))
    (first | (go_at_call 19; refine (toStore_any a c fs nx cp sg _ (hv6.below ?_) hl hsl).mono ?_; exact (Below.refl _ _).drew; rintro e w7 ⟨⟨g7, gs7, hg7, rfl, ho7⟩, hb7⟩) | (go_at_call 20; refine (eqStore_same (some ⟨g4, 0, none⟩) (some ⟨g7, 0, none⟩) fs.length fs.length fs nx cp sg _ (hx6.below ?_) ho7.at hl hsl).mono ?_; exact (Below.refl _ _).drew.trans hb7; rintro e w8 ⟨rfl, hb8⟩) | fail)
  have hB8 : Below w6.heap.size w6 w8 := (Below.refl _ _).drew.trans (hb7.trans (hb8.mono hb7.size))
  have HA9 := hidden' (blk_below HA8.out hB8)
  have HB9 := hidden' (blk_below HB8.out hB8)
  have HW9 := hidden' (blk_below HW8.out hB8)
  have HC9 := hidden' (blk_below HC8.out hB8)
  have HX9 := hidden' (HX8.out.below hB8)
  have HV9 := hidden' (owns_of_block HV8.out (fun g hg => hB8.block g (HV8.out.lt g hg).2))
  have HN9 := hidden' (HN8.out.kept (w' := w8) (fun b _ hlt => hB8.block b hlt))
  have HG9 := hidden' (HG8.out.below hB8)
  have hW8 : Below w.heap.size w w8 := hW6.trans (hB8.mono hW6.size)
  have hz8 := hB8.size
  clear HA8 HB8 HW8 HC8 HX8 HN8 HG8 HV8 hB8 hb7 hb8 q0 q1 q2 q3 p0 p1 p2 p3 hv6 hx6 ho7 hg7
  go_wp2_with fail
  refine (toValueS_any sa sc vs w8 (hsv.below hW8) hvl).mono ?_
  rintro e w8v ⟨⟨rfl, ho8v⟩, hb8v⟩
  have HV9v := hidden' (owns_of_block HV9.out (fun g hg => hb8v.block g (HV9.out.lt g hg).2))
  go_wp2_with fail
  refine (eqValueS_same (some ⟨w4'.heap.size, 0, none⟩) (some ⟨w8.heap.size, 0, none⟩) vs.length vs.length vs w8v (ValsAt.owns HV9v.out) (ValsAt.own ho8v) hvl).mono ?_
  rintro e w8e ⟨rfl, hb8w⟩
  have hb8e : Below w8.heap.size w8 w8e := hb8v.trans (hb8w.mono hb8v.size)
  have HA9e := hidden' (blk_below HA9.out hb8e)
  have HB9e := hidden' (blk_below HB9.out hb8e)
  have HW9e := hidden' (blk_below HW9.out hb8e)
  have HC9e := hidden' (blk_below HC9.out hb8e)
  have HX9e := hidden' (HX9.out.below hb8e)
  have HV9e := hidden' (owns_of_block HV9.out (fun g hg => hb8e.block g (HV9.out.lt g hg).2))
  have HN9e := hidden' (HN9.out.kept (w' := w8e) (fun b _ hlt => hb8e.block b hlt))
  have HG9e := hidden' (HG9.out.below hb8e)
  have hW8e : Below w.heap.size w w8e := hW8.trans (hb8e.mono hW8.size)
  have hz8e := hb8e.size
  clear HA9 HB9 HW9 HC9 HX9 HN9 HG9 HV9 HV9v ho8v hb8v hb8w hb8e
  go_wp2_with (first | (refine wpList_load_blk (by rfl) 26 (.tmp 9) (by rfl) w4.heap.size (stC (some ⟨g4, 0, none⟩) fs.length fs.length nx cp sg) (by rfl) 26 (0, 0) HB9e.out _ Try.underlying26 (by rfl) infoIS ?_) | fail)
  refine (markStore_any (some ⟨g4, 0, none⟩) fs.length fs nx cp sg xs4 w3'.heap.size 1 w8e HX9e.out hl hsl (by omega) hfit.marks).mono ?_
  rintro e w9 ⟨rfl, _, hm9⟩
  have hnot9 : ∀ g, (g < w3'.heap.size ∨ w4.heap.size ≤ g) → ¬ InBlk (.slice (some ⟨g4, 0, none⟩) fs.length fs.length) xs4 g := fun g hg h => by
    have := hR4.out g h
    omega
  have HA10 := hidden' (blk_mk HA9e.out hm9 (hnot9 _ (by omega)))
  have HW10 := hidden' (blk_mk HW9e.out hm9 (hnot9 _ (by omega)))
  have HC10 := hidden' (blk_mk HC9e.out hm9 (hnot9 _ (by omega)))
  have HV10 := hidden' (owns_of_block HV9e.out (fun g hg => hm9.block g (HV9e.out.lt g hg).2 (hnot9 g (.inr (by have := (HV9e.out.lt g hg).1; omega)))))
  have HN10 := hidden' (HN9e.out.kept (w' := w9) (fun b hz hlt => hm9.block b hlt (hnot9 b (.inl (by omega)))))
  have HG10 := hidden' (HG9e.out.kept (w' := w9) (fun g hg => hm9.block g (HG9e.out.range hg).2 (hnot9 g (.inr (by have := (HG9e.out.range hg).1; omega)))))
  have hW9 : Below w.heap.size w w9 := hW8e.trans (hm9.below hW8e.size (fun g hg => by have := (hR4.out g hg).1; omega))
  have hz9 := hm9.rest.size
  clear HA9e HW9e HC9e HN9e HG9e HB9e HX9e HV9e hm9
  go_wp2_with fail
  refine (markValueS_any (some ⟨w4'.heap.size, 0, none⟩) vs.length vs w4'.heap.size (kEnd 1 fs) w9 HV10.out hvl hkx0 hkx1).mono ?_
  rintro e w9v ⟨rfl, _, hm9v⟩
  have hnv : ∀ g, g ≠ w4'.heap.size → ¬ ((Value.slice (some ⟨w4'.heap.size, 0, none⟩) vs.length vs.length).ownBlock = some g) := fun g hg h => by
    simp [Value.ownBlock] at h
    omega
  have HA10v := hidden' (blk_mk HA10.out hm9v (hnv _ (by omega)))
  have HW10v := hidden' (blk_mk HW10.out hm9v (hnv _ (by omega)))
  have HC10v := hidden' (blk_mk HC10.out hm9v (hnv _ (by omega)))
  have HN10v := hidden' (HN10.out.kept (w' := w9v) (fun b hz hlt => hm9v.block b hlt (hnv b (by omega))))
  have HG10v := hidden' (HG10.out.kept (w' := w9v) (fun g hg => hm9v.block g (HG10.out.range hg).2 (hnv g (by have := (HG10.out.range hg).1; omega))))
  have hW9v : Below w.heap.size w w9v := hW9.trans (hm9v.below hW9.size (fun g hg => by have : ¬ g ≠ w4'.heap.size := fun h => hnv g h hg; omega))
  have hz9v := hm9v.rest.size
  have hkx : ¬ kEnd 1 fs + 3 * (vs.length : Int) < 0 := by omega
  have hkr : ¬ kEnd 1 R.fs < 0 := by have := kEnd_ge R.fs 1; omega
  clear HA10 HW10 HC10 HN10 HG10 HV10 hm9v
  obtain ⟨u0, u1, u2, u3, u4, u5⟩ := c6_cells HC10v.out
  obtain ⟨v0, v1, v2, v3, v4, v5⟩ := c6_cells HW10v.out
  go_wp2_with fail
  refine (eqChange_same a5 a3 c5 c3 R w9v HG10v.out.at HN10v.out.at hfitR.len hfitR.slots).mono ?_
  rintro e w10 ⟨rfl, hb10⟩
  have HA11 := hidden' (blk_below HA10v.out hb10)
  have HW11 := hidden' (blk_below HW10v.out hb10)
  have HC11 := hidden' (blk_below HC10v.out hb10)
  have HN11 := hidden' (HN10v.out.kept (w' := w10) (fun b _ hlt => hb10.block b hlt))
  have HG11 := hidden' (HG10v.out.below hb10)
  have hW10 : Below w.heap.size w w10 := hW9v.trans (hb10.mono hW9v.size)
  have hz10 := hb10.size
  clear HA10v HW10v HC10v HN10v HG10v u0 u1 u2 u3 u4 u5 v0 v1 v2 v3 v4 v5 hb10
  go_wp2_with (first | (refine wpList_load_blk (by rfl) 33 (.tmp 11) (by rfl) w5.heap.size (R.cells a5 c5) (by rfl) 33 (0, 0) HC11.out _ Try.underlying33 (by rfl) infoC ?_) | fail)
  refine (markChange_any a5 c5 R xs5 w4v.heap.size 1 w10 HG11.out hfitR.len hfitR.slots (by omega) hfitR.marks).mono ?_
  rintro e w11 ⟨rfl, ho11, hm11⟩
  have hnot11 : ∀ g, (g < w4v.heap.size ∨ w5.heap.size ≤ g) → ¬ InBlk (.slice a5 R.fs.length c5) xs5 g := fun g hg h => by
    have := hR5.out g h
    omega
  have HA12 := hidden' (blk_mk HA11.out hm11 (hnot11 _ (by omega)))
  have HW12 := hidden' (blk_mk HW11.out hm11 (hnot11 _ (by omega)))
  have HC12 := hidden' (blk_mk HC11.out hm11 (hnot11 _ (by omega)))
  have HN12 := hidden' (HN11.out.kept (w' := w11) (fun b hz hlt => hm11.block b hlt (hnot11 b (.inl (by omega)))))
  have hW11 : Below w.heap.size w w11 := hW10.trans (hm11.below hW10.size (fun g hg => by have := (hR5.out g hg).1; omega))
  have hz11 := hm11.rest.size
  have hat11 := ho11.at
  clear HA11 HW11 HC11 HN11 HG11 hm11 ho11
  go_wp2_with (first | (refine wpList_load_blk (by rfl) 33 (.tmp 11) (by rfl) w5.heap.size (R.cells a5 c5) (by rfl) 33 (0, 0) HC12.out _ Try.underlying33 (by rfl) infoC ?_) | fail)
  refine (heldChange_any a5 c5 R 1 w11 hat11 hfitR.len hfitR.slots (by omega) hfitR.marks).mono ?_
  rintro e w12 ⟨rfl, hb12⟩
  have HA13 := hidden' (blk_below HA12.out hb12)
  have HW13 := hidden' (blk_below HW12.out hb12)
  have HN13 := hidden' (HN12.out.kept (w' := w12) (fun b _ hlt => hb12.block b hlt))
  have hW12 : Below w.heap.size w w12 := hW11.trans (hb12.mono hW11.size)
  have hz12 := hb12.size
  clear HA12 HW12 HC12 HN12 hat11 hb12
  go_wp2_with (first | (refine wpList_load_blk (by rfl) 43 (.tmp 3) (by rfl) w.heap.size (stC a fs.length c nx cp sg) (by rfl) 43 (0, 0) HA13.out _ Try.underlying43 (by rfl) infoLS ?_) | fail)
  refine (toStore_any a c fs nx cp sg w12 (hv.below hW12) hl hsl).mono ?_
  rintro e w13 ⟨⟨g13, gs13, hg13, rfl, ho13⟩, hb13⟩
  have HW14 := hidden' (blk_below HW13.out hb13)
  have HN14 := hidden' (HN13.out.kept (w' := w13) (fun b _ hlt => hb13.block b hlt))
  have hW13 : Below w.heap.size w w13 := hW12.trans (hb13.mono hW12.size)
  have HO13 := hidden' ho13
  clear HA13 HW13 HN13 ho13 hb13
  go_wp2_with fail
  refine (toValueS_any sa sc vs w13 (hsv.below hW13) hvl).mono ?_
  rintro e w13v ⟨⟨rfl, ho13v⟩, hb13v⟩
  have HW14v := hidden' (blk_below HW14.out hb13v)
  have HN14v := hidden' (HN14.out.kept (w' := w13v) (fun b _ hlt => hb13v.block b hlt))
  have hW13v : Below w.heap.size w w13v := hW13.trans (hb13v.mono hW13.size)
  have hat13 := hidden' (HO13.out.at.below hb13v)
  have hvat13 := hidden' (ValsAt.own ho13v)
  clear HW14 HN14 HO13 ho13v hb13v
  go_wp2_with fail
  have hir := iAssert_any (some ⟨g13, 0, none⟩) fs.length fs nx cp sg cls (some ⟨w13.heap.size, 0, none⟩) vs.length vs w13v hat13.out hvat13.out hl hs hr hcs hvl hvs
  rw [hR] at hir
  refine hir.mono ?_
  clear hir
  rintro e w14 ⟨⟨a14, c14, xs14, rfl, ho14⟩, hb14⟩
  have HW15 := hidden' (blk_below HW14v.out hb14)
  have HN15 := hidden' (HN14v.out.kept (w' := w14) (fun b _ hlt => hb14.block b hlt))
  have HG15 := hidden' ho14
  have hW14 : Below w.heap.size w w14 := hW13v.trans (hb14.mono hW13v.size)
  clear HW14v HN14v ho14 hb14 hat13 hvat13
  go_wp2_with (first | (refine wpList_store_blk (by rfl) 33 (.tmp 15) (.tmp 87) (by rfl) w14.heap.size (R.cells a14 c14) (by rfl) (by rfl) _ 33 (new_blk _ _ _ rfl) (by rfl) infoC (C6.one _ _ _) ?_; intro w14' hh14 ht14; have HW16 := hidden' (blk_new HW15.out ht14.out)) | (refine wpList_load_blk (by rfl) 33 (.tmp 15) (by rfl) w14.heap.size (R.cells a14 c14) (by rfl) 33 (0, 0) hh14.out _ Try.underlying33 (by rfl) infoC ?_) | (refine wpList_load_blk (by rfl) 33 (.tmp 8) (by rfl) w3.heap.size (R.cells a3 c3) (by rfl) 33 (0, 0) HW16.out _ Try.underlying33 (by rfl) infoC ?_) | fail)
  have hn14 := new_below ht14.out
  have hon16 := HN15.out.kept (w' := w14') (fun b _ hlt => hn14.block b hlt)
  refine (eqChange_same a14 a3 c14 c3 R w14' (HG15.out.below hn14).at hon16.at hfitR.len hfitR.slots).mono ?_
  rintro e w15 ⟨rfl, hb15⟩
  have hW14' : Below w.heap.size w w14' := hW14.trans (hn14.mono hW14.size)
  go_wp2_with fail
  go_ret
  exact ⟨rfl, hW14'.trans (hb15.mono hW14'.size)⟩
end Go.Proofs.Ytlkfmbpbgnhcjab
