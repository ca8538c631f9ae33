/-
  OUR OWN TEXT. The program's way to add a fact to a copy.
-/
import Derived.Test.YtgamdkokmkagaaaPutm
namespace Go.Proofs.Ytgamdkokmkagaaa
open Go.RowKit
attribute [local go_sem ↓] Go.wp_at_zero Go.wp_at_succ

set_option maxRecDepth 100000 in
set_option maxHeartbeats 1600000 in
theorem plus_any (a : Option Addr) (c : Nat) (fs : List F) (xs : List Value) (nx cp : Int) (sg : Bool) (f : F) (sa : Option Addr) (sc : Nat) (base : Nat) (w : World) (hp : OFs w base (.slice a fs.length c) fs.length fs xs) (hsv : ValsAt w sa f.slots) (hl : fs.length ≤ 1048576) (hvl : f.slots.length ≤ 1048576) (hbase : base ≤ w.heap.size) (h1 : 0 ≤ f.tag) (h2 : f.tag ≤ 1000000) :
    Calls Try.prog 170 #[.agg #[.slice a fs.length c, .int .i64 nx, .int .i64 cp, .bool sg], .agg #[.int .i64 f.tag, .string f.cls, .slice sa f.slots.length sc]] w fun e w' =>
      (∃ a' c' xs', e = .returned (C6.val ⟨fs ++ [f], f.tag + 1, cp, sg, 0, f.tag⟩ a' c') ∧ OFs w' base (.slice a' (fs ++ [f]).length c') (fs ++ [f]).length (fs ++ [f]) xs') ∧ Below base w w' := by
  have B3 : ∀ o o' o'', Below w.heap.size w (((w.alloc o).alloc o').alloc o'') := fun o o' o'' => (((Below.refl _ _).alloc (Nat.le_refl _) _).alloc (by simp) _).alloc (by simp; omega) _
  have hw1 : IntKind.i64.wrap (f.tag + 1) = f.tag + 1 := by rw [IntKind.wrap_i64]; omega
  have hz2 : w.heap.size < w.heap.size + 1 + 1 := by omega
  have HP := hidden' hp
  have hvb := hidden' (fun g (hg : (Value.slice a fs.length c).ownBlock = some g) => (hp.own.lt g hg).2)
  have hvr := hidden' (fun g (hg : InBlk (.slice a fs.length c) xs g) => hp.range hg)
  clear hp
  go_enter Try.func170, Try.ntmps170
  go_wp2_with fail
  go_region_law (first | (go_simp; go_at_call 198; refine (factCopied_any f sa sc _ (hsv.below ?_) hvl).mono ?_; exact (B3 _ _ _).drew; rintro e w1 ⟨⟨a1, c1, rfl, hx1⟩, hb1⟩; obtain ⟨hc1, hf1⟩ := bcellD hb1; have HX := hidden' hx1; clear hx1; have ho1 := hidden' ((HP.out.below (B3 _ _ _).drew).below hb1); have hzC : w.heap.size + 1 + 1 < w1.heap.size := Nat.lt_of_lt_of_le (by simp) hb1.size; have hzB : w.heap.size + 1 < w1.heap.size := (by omega); have hzA : w.heap.size < w1.heap.size := (by omega)) | (refine step_append_any (by rfl) (.tmp 6) (.tmp 9) 24 (by rfl) base 117 _ 3 48 Try.underlying24 infoF (by rfl) (by omega) _ fs.length _ (by rfl) (ho1.out.own.alloc _) (some ⟨w1.heap.size, 0, none⟩) 1 1 (by rfl) (fcells f (.slice a1 f.slots.length c1)) (by rfl) (fun e => by cases e) (by exact news_alloc _ _ _) (fcells_one _ _ _ _) (by unfold maxLen; omega) (by omega) (by have h2 := hb1.size; simp at h2 ⊢; omega) ?_; intro a2 c2' w2 ho2 hg2 hl2; obtain ⟨hcA0, hfA0⟩ := grown_reads hg2.out hvb.out w.heap.size (Nat.le_refl _) hzA; obtain ⟨hcB0, hfB0⟩ := grown_reads hg2.out hvb.out (w.heap.size + 1) (by omega) hzB; obtain ⟨hcC0, hfC0⟩ := grown_reads hg2.out hvb.out (w.heap.size + 1 + 1) (by omega) hzC; have hcA := fun j => (hcA0 j).trans (hc1 w.heap.size j (by simp; omega)); have hfA := fun j => (hfA0 j).trans (hf1 w.heap.size j (by simp; omega)); have hcB := fun j => (hcB0 j).trans (hc1 (w.heap.size + 1) j (by simp)); have hfB := fun j => (hfB0 j).trans (hf1 (w.heap.size + 1) j (by simp)); have hcC := fun j => (hcC0 j).trans (hc1 (w.heap.size + 1 + 1) j (by simp)); have hfC := fun j => (hfC0 j).trans (hf1 (w.heap.size + 1 + 1) j (by simp)); clear hcA0 hfA0 hcB0 hfB0 hcC0 hfC0 hc1 hf1) | fail)
  all_goals
    have hX := HX.out
    have hS := (ho1.out.below ((Below.refl _ _).alloc (Nat.le_refl _) _)).snoc ⟨hX.1, (owns_base hX.2 (by simp; omega)).alloc _⟩ (apart_new HP.out.own hX.2 (by simp; omega)) (fun y hy => by
        obtain ⟨f', _, hf'⟩ := HP.out.each' hy
        exact apart_new hf' hX.2 (by simp; omega)) ho2.out hg2.out hl2.out
    have HS := hidden' hS
    clear hS hX
    go_wp2
    have hlen : (fs ++ [f]).length = fs.length + 1 := by simp
    refine bodyPost_ret (v := C6.val ⟨fs ++ [f], f.tag + 1, cp, sg, 0, f.tag⟩ a2 c2') (by simp [results, Try.results170, go_sem, hcC, C6.val]) rfl ⟨⟨a2, c2', xs ++ [.slice a1 f.slots.length c1], rfl, ?_⟩, ?_⟩
    · rw [hlen]
      refine HS.out.kept ?_
      intro g hg
      have hne : g ≠ w.heap.size ∧ g ≠ w.heap.size + 1 + 1 := by
        rcases hg with hg | ⟨y, hy, hg⟩
        · rcases hl2.out with e | e
          · have := hvb.out g (e.symm.trans hg); omega
          · have := e.symm.trans hg
            simp at this
            omega
        · rcases List.mem_append.1 hy with hy | hy
          · have := (hvr.out g (.inr ⟨y, hy, hg⟩)).2; omega
          · simp at hy
            subst hy
            have := (HX.out.2.lt g hg).1
            simp at this
            omega
      have k1 : ∀ (v : World) o u, (v.setCell ⟨w.heap.size, o, none⟩ u).heap[g]? = v.heap[g]? := fun v o u => Below.heap_setCell _ _ _ _ hne.1
      have k2 : ∀ (v : World) o u, (v.setCell ⟨w.heap.size + 1 + 1, o, none⟩ u).heap[g]? = v.heap[g]? := fun v o u => Below.heap_setCell _ _ _ _ hne.2
      simp only [k1, k2]
    · have hW1 : Below base w w1 := ((B3 _ _ _).drew.trans (hb1.mono (by simp; omega))).mono hbase
      have hW2 : Below base w w2 := (hW1.alloc (by omega) _).grown hg2.out (by simp; omega) (fun j hj => (ho1.out.own.lt j hj).1)
      exact (((((((hW2.setCell (by simp; omega) _).setCell (by simp; omega) _).setCell (by simp; omega) _).setCell (by simp; omega) _).setCell (by simp; omega) _).setCell (by simp; omega) _).setCell (by simp; omega) _).setCell (by simp; omega) _
end Go.Proofs.Ytgamdkokmkagaaa
