/-
  OUR OWN TEXT. The model's side of the checker: an operation, no operator (written by gensc4.py).
-/
import Derived.Test.YtognpkdgphebeaaGreatOd
namespace Go.Proofs.YtognpkdgphebeaaGreat
open Go.RowKit
attribute [local go_sem ↓] Go.wp_at_zero Go.wp_at_succ

theorem hidSA {p : Prop} (h : p) : Hid p := h

set_option maxHeartbeats 3200000 in
theorem goodExpr_o1 (a : Option Addr) (c : Nat) (es : List Ex) (S : List Sp) (e : Ex) (w : World) {q : Option Nat} (hv : ExsAt q w a es) (he : es[S.length]? = some e) (ho0 : 0 ≤ e.op) (ho1 : e.op < 256) (k2 : e.kind = 2) (har : isAr e.op = false) :
    Calls Tryz.prog 139 #[.slice a es.length c, .int .i64 (S.length : Int)] w fun e' w' => e' = .returned (.bool false) ∧ Below w.heap.size w w' := by
  have hkl : S.length < es.length := (List.getElem?_eq_some_iff.1 he).1
  have B1 : ∀ o, Below w.heap.size w (w.alloc o) := fun o => (Below.refl _ _).alloc (Nat.le_refl _) _
  have B3 : ∀ o o1 o2, Below w.heap.size w (((w.alloc o).drew.alloc o1).alloc o2) := fun o o1 o2 => ((B1 o).drew.alloc (by simp) _).alloc (by simp; omega) _
  have hv0 := hv
  obtain ⟨b, o, rfl, hq, c0, c1, c2, c3, c4, c5, c6, c7⟩ := hv.get he
  have hcv := run_conv1 e.op
  have hIs := hidSA (l2Is_ar e.op ho0 ho1)
  rw [har] at hIs
  rw [k2] at c0
  clear hq hv
  have hcase : (e.op == 0) = false ∨ ((e.op == 0) = true ∧ (e.a == 0) = false) ∨ ((e.op == 0) = true ∧ (e.a == 0) = true ∧ (e.b == 0) = false) ∨ ((e.op == 0) = true ∧ (e.a == 0) = true ∧ (e.b == 0) = true) := by
    cases (e.op == 0) <;> cases (e.a == 0) <;> cases (e.b == 0) <;> simp
  rcases hcase with h1 | ⟨h1, h2⟩ | ⟨h1, h2, h3⟩ | ⟨h1, h2, h3⟩
  · go_enter Tryz.func139, Tryz.ntmps139
    go_wp2
    clear c0 c1 c2 c3 c4 c5 c6 c7 he hkl hv0
    (try clear h3); (try clear h2); clear h1
    refine wp_region_noPanic ?_
    refine wp_region_held_drew (S := (fun w' => w'.cell? ⟨w.heap.size, 0, none⟩ = some (.int .i64 2) ∧ w'.cell? ⟨w.heap.size, 1, none⟩ = some (.int .u8 e.op) ∧ w'.cell? ⟨w.heap.size, 2, none⟩ = some (.string e.var) ∧ w'.cell? ⟨w.heap.size, 3, none⟩ = some (.int .i64 e.val.kind) ∧ w'.cell? ⟨w.heap.size, 4, none⟩ = some (.int .i64 e.val.num) ∧ w'.cell? ⟨w.heap.size, 5, none⟩ = some (.string e.val.sym) ∧ w'.cell? ⟨w.heap.size, 6, none⟩ = some (.int .i64 e.a) ∧ w'.cell? ⟨w.heap.size, 7, none⟩ = some (.int .i64 e.b))) (by kernel_rfl) ?_ (fun hHeld => ?_)
    · (try dsimp only)
      (go_split_ands; refine ⟨?_, ?_, ?_, ?_, ?_, ?_, ?_, ?_⟩ <;> first | (simp [go_sem]; done) | exact cell_below hb' (by assumption))
    refine tkY 0 hHeld (by rfl) (by kernel_rfl) (by kernel_rfl) (by kernel_rfl) (by rfl) (by intro w hSw; (try dsimp only at hSw); go_simp; try with_reducible rfl) ?_
    (try simp only [Act.put, List.setIfInBounds_toArray, List.set_cons_zero, List.set_cons_succ])
    refine tkY 1 hHeld (by rfl) (by kernel_rfl) (by kernel_rfl) (by kernel_rfl) (by rfl) (by intro w hSw; (try dsimp only at hSw); go_simp; try with_reducible rfl) ?_
    (try simp only [Act.put, List.setIfInBounds_toArray, List.set_cons_zero, List.set_cons_succ])
    refine wpAnyH_ready (rs := [2, 4]) (by kernel_rfl) (by simp) ?_
    refine AllReadyH.cons (o := ?o1) ?ho1 (fun K hK => ?step1) (AllReadyH.cons (o := ?o2) ?ho2 (fun K hK => ?step2) AllReadyH.nil)
    case ho1 => (simp only [List.getElem?_toArray, List.getElem?_cons_succ, List.getElem?_cons_zero]; rfl)
    case ho2 => (simp only [List.getElem?_toArray, List.getElem?_cons_succ, List.getElem?_cons_zero]; rfl)
    case step1 =>
      go_simp
      refine hK.out _ _ ?hS3 (fun hHeld' => ?rest3)
      case hS3 => ((try dsimp only); (go_split_ands; refine ⟨?_, ?_, ?_, ?_, ?_, ?_, ?_, ?_⟩ <;> first | (simp [go_sem]; done) | exact cell_below hb' (by assumption)))
      clear hK K
      (try simp only [Act.put, List.setIfInBounds_toArray, List.set_cons_zero, List.set_cons_succ])
      clear hHeld
      have hHeld := hHeld'
      clear hHeld'
      refine wpAnyH_ready (rs := [3, 4]) (by kernel_rfl) (by simp) ?_
      refine AllReadyH.cons (o := ?o4) ?ho4 (fun K hK => ?step4) (AllReadyH.cons (o := ?o5) ?ho5 (fun K hK => ?step5) AllReadyH.nil)
      case ho4 => (simp only [List.getElem?_toArray, List.getElem?_cons_succ, List.getElem?_cons_zero]; rfl)
      case ho5 => (simp only [List.getElem?_toArray, List.getElem?_cons_succ, List.getElem?_cons_zero]; rfl)
      case step4 =>
        go_simp
        refine hK.out _ _ ?hS6 (fun hHeld' => ?rest6)
        case hS6 => ((try dsimp only); (go_split_ands; refine ⟨?_, ?_, ?_, ?_, ?_, ?_, ?_, ?_⟩ <;> first | (simp [go_sem]; done) | exact cell_below hb' (by assumption)))
        clear hK K
        (try simp only [Act.put, List.setIfInBounds_toArray, List.set_cons_zero, List.set_cons_succ])
        clear hHeld
        have hHeld := hHeld'
        clear hHeld'
        refine wpAnyH_ready (rs := [4]) (by kernel_rfl) (by simp) ?_
        refine AllReadyH.cons (o := ?o7) ?ho7 (fun K hK => ?step7) AllReadyH.nil
        case ho7 => (simp only [List.getElem?_toArray, List.getElem?_cons_succ, List.getElem?_cons_zero]; rfl)
        go_simp
        (go_at_call 155; refine (l2Ariths_any _).mono ?_; rintro e' w' ⟨rfl, rfl⟩)
        (try go_wp2_with fail)
        refine hK.out _ _ ?hS8 (fun hHeld' => ?rest8)
        case hS8 => ((try dsimp only); (go_split_ands; refine ⟨?_, ?_, ?_, ?_, ?_, ?_, ?_, ?_⟩ <;> first | (simp [go_sem]; done) | exact cell_below hb' (by assumption)))
        clear hK K
        (try simp only [Act.put, List.setIfInBounds_toArray, List.set_cons_zero, List.set_cons_succ])
        clear hHeld
        have hHeld := hHeld'
        clear hHeld'
        refine wpAnyH_ready (rs := [5]) (by kernel_rfl) (by simp) ?_
        refine AllReadyH.cons (o := ?o9) ?ho9 (fun K hK => ?step9) AllReadyH.nil
        case ho9 => (simp only [List.getElem?_toArray, List.getElem?_cons_succ, List.getElem?_cons_zero]; rfl)
        go_simp
        (go_at_call 141; refine (hIs.out _ _ ?_).mono ?_; (first | exact ar_new _ _ _ (by simp) | exact ar_old _ _ _ _ (by simp)); rintro e' w' ⟨rfl, rfl⟩)
        (try go_wp2_with fail)
        refine hK.out _ _ ?hS10 (fun hHeld' => ?rest10)
        case hS10 => ((try dsimp only); (go_split_ands; refine ⟨?_, ?_, ?_, ?_, ?_, ?_, ?_, ?_⟩ <;> first | (simp [go_sem]; done) | exact cell_below hb' (by assumption)))
        clear hK K
        (try simp only [Act.put, List.setIfInBounds_toArray, List.set_cons_zero, List.set_cons_succ])
        clear hHeld
        have hHeld := hHeld'
        clear hHeld'
        refine tkY 6 hHeld (by rfl) (by kernel_rfl) (by kernel_rfl) (by kernel_rfl) (by rfl) (by intro w hSw; (try dsimp only at hSw); go_simp; try with_reducible rfl) ?_
        (try simp only [Act.put, List.setIfInBounds_toArray, List.set_cons_zero, List.set_cons_succ])
        refine tkY 7 hHeld (by rfl) (by kernel_rfl) (by kernel_rfl) (by kernel_rfl) (by rfl) (by intro w hSw; (try dsimp only at hSw); go_simp; try with_reducible rfl) ?_
        refine tkN 8 hHeld (by rfl) (by kernel_rfl) (by kernel_rfl) (by kernel_rfl) (by rfl) ?_
        refine tkN 9 hHeld (by rfl) (by kernel_rfl) (by kernel_rfl) (by kernel_rfl) (by rfl) ?_
        refine tkN 10 hHeld (by rfl) (by kernel_rfl) (by kernel_rfl) (by kernel_rfl) (by rfl) ?_
        (try simp only [Act.put, List.setIfInBounds_toArray, List.set_cons_zero, List.set_cons_succ])
        refine tkY 11 hHeld (by rfl) (by kernel_rfl) (by kernel_rfl) (by kernel_rfl) (by rfl) (by intro w hSw; (try dsimp only at hSw); go_simp; try with_reducible rfl) ?_
        (try simp only [Act.put, List.setIfInBounds_toArray, List.set_cons_zero, List.set_cons_succ])
        refine tkY 12 hHeld (by rfl) (by kernel_rfl) (by kernel_rfl) (by kernel_rfl) (by rfl) (by intro w hSw; (try dsimp only at hSw); go_simp; try with_reducible rfl) ?_
        refine tkN 13 hHeld (by rfl) (by kernel_rfl) (by kernel_rfl) (by kernel_rfl) (by rfl) ?_
        refine tkN 14 hHeld (by rfl) (by kernel_rfl) (by kernel_rfl) (by kernel_rfl) (by rfl) ?_
        refine tkN 15 hHeld (by rfl) (by kernel_rfl) (by kernel_rfl) (by kernel_rfl) (by rfl) ?_
        (try simp only [Act.put, List.setIfInBounds_toArray, List.set_cons_zero, List.set_cons_succ])
        refine tkN 16 hHeld (by rfl) (by kernel_rfl) (by kernel_rfl) (by kernel_rfl) (by rfl) ?_
        (try simp only [Act.put, List.setIfInBounds_toArray, List.set_cons_zero, List.set_cons_succ])
        refine tkY 17 hHeld (by rfl) (by kernel_rfl) (by kernel_rfl) (by kernel_rfl) (by rfl) (by intro w hSw; (try dsimp only at hSw); go_simp; try with_reducible rfl) ?_
        (try simp only [Act.put, List.setIfInBounds_toArray, List.set_cons_zero, List.set_cons_succ])
        refine tkY 18 hHeld (by rfl) (by kernel_rfl) (by kernel_rfl) (by kernel_rfl) (by rfl) (by intro w hSw; (try dsimp only at hSw); go_simp; try with_reducible rfl) ?_
        refine tkN 19 hHeld (by rfl) (by kernel_rfl) (by kernel_rfl) (by kernel_rfl) (by rfl) ?_
        refine tkN 20 hHeld (by rfl) (by kernel_rfl) (by kernel_rfl) (by kernel_rfl) (by rfl) ?_
        refine tkN 21 hHeld (by rfl) (by kernel_rfl) (by kernel_rfl) (by kernel_rfl) (by rfl) ?_
        (try simp only [Act.put, List.setIfInBounds_toArray, List.set_cons_zero, List.set_cons_succ])
        refine tkN 22 hHeld (by rfl) (by kernel_rfl) (by kernel_rfl) (by kernel_rfl) (by rfl) ?_
        refine tkN 23 hHeld (by rfl) (by kernel_rfl) (by kernel_rfl) (by kernel_rfl) (by rfl) ?_
        (try simp only [Act.put, List.setIfInBounds_toArray, List.set_cons_zero, List.set_cons_succ])
        refine tkY 24 hHeld (by rfl) (by kernel_rfl) (by kernel_rfl) (by kernel_rfl) (by rfl) (by intro w hSw; (try dsimp only at hSw); go_simp; try with_reducible rfl) ?_
        (try simp only [Act.put, List.setIfInBounds_toArray, List.set_cons_zero, List.set_cons_succ])
        refine tkY 25 hHeld (by rfl) (by kernel_rfl) (by kernel_rfl) (by kernel_rfl) (by rfl) (by intro w hSw; (try dsimp only at hSw); go_simp; try with_reducible rfl) ?_
        refine tkN 26 hHeld (by rfl) (by kernel_rfl) (by kernel_rfl) (by kernel_rfl) (by rfl) ?_
        refine tkN 27 hHeld (by rfl) (by kernel_rfl) (by kernel_rfl) (by kernel_rfl) (by rfl) ?_
        refine tkN 28 hHeld (by rfl) (by kernel_rfl) (by kernel_rfl) (by kernel_rfl) (by rfl) ?_
        (try simp only [Act.put, List.setIfInBounds_toArray, List.set_cons_zero, List.set_cons_succ])
        refine tkY 29 hHeld (by rfl) (by kernel_rfl) (by kernel_rfl) (by kernel_rfl) (by rfl) (by intro w hSw; (try dsimp only at hSw); go_simp; try with_reducible rfl) ?_
        (try simp only [Act.put, List.setIfInBounds_toArray, List.set_cons_zero, List.set_cons_succ])
        refine tkY 30 hHeld (by rfl) (by kernel_rfl) (by kernel_rfl) (by kernel_rfl) (by rfl) (by intro w hSw; (try dsimp only at hSw); go_simp; try with_reducible rfl) ?_
        refine tkN 31 hHeld (by rfl) (by kernel_rfl) (by kernel_rfl) (by kernel_rfl) (by rfl) ?_
        refine tkN 32 hHeld (by rfl) (by kernel_rfl) (by kernel_rfl) (by kernel_rfl) (by rfl) ?_
        refine tkN 33 hHeld (by rfl) (by kernel_rfl) (by kernel_rfl) (by kernel_rfl) (by rfl) ?_
        (try simp only [Act.put, List.setIfInBounds_toArray, List.set_cons_zero, List.set_cons_succ])
        refine tkY 34 hHeld (by rfl) (by kernel_rfl) (by kernel_rfl) (by kernel_rfl) (by rfl) (by intro w hSw; (try dsimp only at hSw); go_simp; try with_reducible rfl) ?_
        (try simp only [Act.put, List.setIfInBounds_toArray, List.set_cons_zero, List.set_cons_succ])
        refine wpAnyH_done (by kernel_rfl) ?_ _
        refine NoPanic.normal ?_
        go_wp2
        go_ret
        exact ⟨rfl, B3 _ _ _⟩
      case step5 =>
        go_simp
        (go_at_call 155; refine (l2Ariths_any _).mono ?_; rintro e' w' ⟨rfl, rfl⟩)
        (try go_wp2_with fail)
        refine hK.out _ _ ?hS11 (fun hHeld' => ?rest11)
        case hS11 => ((try dsimp only); (go_split_ands; refine ⟨?_, ?_, ?_, ?_, ?_, ?_, ?_, ?_⟩ <;> first | (simp [go_sem]; done) | exact cell_below hb' (by assumption)))
        clear hK K
        (try simp only [Act.put, List.setIfInBounds_toArray, List.set_cons_zero, List.set_cons_succ])
        clear hHeld
        have hHeld := hHeld'
        clear hHeld'
        refine wpAnyH_ready (rs := [3]) (by kernel_rfl) (by simp) ?_
        refine AllReadyH.cons (o := ?o12) ?ho12 (fun K hK => ?step12) AllReadyH.nil
        case ho12 => (simp only [List.getElem?_toArray, List.getElem?_cons_succ, List.getElem?_cons_zero]; rfl)
        go_simp
        refine hK.out _ _ ?hS13 (fun hHeld' => ?rest13)
        case hS13 => ((try dsimp only); (go_split_ands; refine ⟨?_, ?_, ?_, ?_, ?_, ?_, ?_, ?_⟩ <;> first | (simp [go_sem]; done) | exact cell_below hb' (by assumption)))
        clear hK K
        (try simp only [Act.put, List.setIfInBounds_toArray, List.set_cons_zero, List.set_cons_succ])
        clear hHeld
        have hHeld := hHeld'
        clear hHeld'
        refine wpAnyH_ready (rs := [5]) (by kernel_rfl) (by simp) ?_
        refine AllReadyH.cons (o := ?o14) ?ho14 (fun K hK => ?step14) AllReadyH.nil
        case ho14 => (simp only [List.getElem?_toArray, List.getElem?_cons_succ, List.getElem?_cons_zero]; rfl)
        go_simp
        (go_at_call 141; refine (hIs.out _ _ ?_).mono ?_; (first | exact ar_new _ _ _ (by simp) | exact ar_old _ _ _ _ (by simp)); rintro e' w' ⟨rfl, rfl⟩)
        (try go_wp2_with fail)
        refine hK.out _ _ ?hS15 (fun hHeld' => ?rest15)
        case hS15 => ((try dsimp only); (go_split_ands; refine ⟨?_, ?_, ?_, ?_, ?_, ?_, ?_, ?_⟩ <;> first | (simp [go_sem]; done) | exact cell_below hb' (by assumption)))
        clear hK K
        (try simp only [Act.put, List.setIfInBounds_toArray, List.set_cons_zero, List.set_cons_succ])
        clear hHeld
        have hHeld := hHeld'
        clear hHeld'
        refine tkY 6 hHeld (by rfl) (by kernel_rfl) (by kernel_rfl) (by kernel_rfl) (by rfl) (by intro w hSw; (try dsimp only at hSw); go_simp; try with_reducible rfl) ?_
        (try simp only [Act.put, List.setIfInBounds_toArray, List.set_cons_zero, List.set_cons_succ])
        refine tkY 7 hHeld (by rfl) (by kernel_rfl) (by kernel_rfl) (by kernel_rfl) (by rfl) (by intro w hSw; (try dsimp only at hSw); go_simp; try with_reducible rfl) ?_
        refine tkN 8 hHeld (by rfl) (by kernel_rfl) (by kernel_rfl) (by kernel_rfl) (by rfl) ?_
        refine tkN 9 hHeld (by rfl) (by kernel_rfl) (by kernel_rfl) (by kernel_rfl) (by rfl) ?_
        refine tkN 10 hHeld (by rfl) (by kernel_rfl) (by kernel_rfl) (by kernel_rfl) (by rfl) ?_
        (try simp only [Act.put, List.setIfInBounds_toArray, List.set_cons_zero, List.set_cons_succ])
        refine tkY 11 hHeld (by rfl) (by kernel_rfl) (by kernel_rfl) (by kernel_rfl) (by rfl) (by intro w hSw; (try dsimp only at hSw); go_simp; try with_reducible rfl) ?_
        (try simp only [Act.put, List.setIfInBounds_toArray, List.set_cons_zero, List.set_cons_succ])
        refine tkY 12 hHeld (by rfl) (by kernel_rfl) (by kernel_rfl) (by kernel_rfl) (by rfl) (by intro w hSw; (try dsimp only at hSw); go_simp; try with_reducible rfl) ?_
        refine tkN 13 hHeld (by rfl) (by kernel_rfl) (by kernel_rfl) (by kernel_rfl) (by rfl) ?_
        refine tkN 14 hHeld (by rfl) (by kernel_rfl) (by kernel_rfl) (by kernel_rfl) (by rfl) ?_
        refine tkN 15 hHeld (by rfl) (by kernel_rfl) (by kernel_rfl) (by kernel_rfl) (by rfl) ?_
        (try simp only [Act.put, List.setIfInBounds_toArray, List.set_cons_zero, List.set_cons_succ])
        refine tkN 16 hHeld (by rfl) (by kernel_rfl) (by kernel_rfl) (by kernel_rfl) (by rfl) ?_
        (try simp only [Act.put, List.setIfInBounds_toArray, List.set_cons_zero, List.set_cons_succ])
        refine tkY 17 hHeld (by rfl) (by kernel_rfl) (by kernel_rfl) (by kernel_rfl) (by rfl) (by intro w hSw; (try dsimp only at hSw); go_simp; try with_reducible rfl) ?_
        (try simp only [Act.put, List.setIfInBounds_toArray, List.set_cons_zero, List.set_cons_succ])
        refine tkY 18 hHeld (by rfl) (by kernel_rfl) (by kernel_rfl) (by kernel_rfl) (by rfl) (by intro w hSw; (try dsimp only at hSw); go_simp; try with_reducible rfl) ?_
        refine tkN 19 hHeld (by rfl) (by kernel_rfl) (by kernel_rfl) (by kernel_rfl) (by rfl) ?_
        refine tkN 20 hHeld (by rfl) (by kernel_rfl) (by kernel_rfl) (by kernel_rfl) (by rfl) ?_
        refine tkN 21 hHeld (by rfl) (by kernel_rfl) (by kernel_rfl) (by kernel_rfl) (by rfl) ?_
        (try simp only [Act.put, List.setIfInBounds_toArray, List.set_cons_zero, List.set_cons_succ])
        refine tkN 22 hHeld (by rfl) (by kernel_rfl) (by kernel_rfl) (by kernel_rfl) (by rfl) ?_
        refine tkN 23 hHeld (by rfl) (by kernel_rfl) (by kernel_rfl) (by kernel_rfl) (by rfl) ?_
        (try simp only [Act.put, List.setIfInBounds_toArray, List.set_cons_zero, List.set_cons_succ])
        refine tkY 24 hHeld (by rfl) (by kernel_rfl) (by kernel_rfl) (by kernel_rfl) (by rfl) (by intro w hSw; (try dsimp only at hSw); go_simp; try with_reducible rfl) ?_
        (try simp only [Act.put, List.setIfInBounds_toArray, List.set_cons_zero, List.set_cons_succ])
        refine tkY 25 hHeld (by rfl) (by kernel_rfl) (by kernel_rfl) (by kernel_rfl) (by rfl) (by intro w hSw; (try dsimp only at hSw); go_simp; try with_reducible rfl) ?_
        refine tkN 26 hHeld (by rfl) (by kernel_rfl) (by kernel_rfl) (by kernel_rfl) (by rfl) ?_
        refine tkN 27 hHeld (by rfl) (by kernel_rfl) (by kernel_rfl) (by kernel_rfl) (by rfl) ?_
        refine tkN 28 hHeld (by rfl) (by kernel_rfl) (by kernel_rfl) (by kernel_rfl) (by rfl) ?_
        (try simp only [Act.put, List.setIfInBounds_toArray, List.set_cons_zero, List.set_cons_succ])
        refine tkY 29 hHeld (by rfl) (by kernel_rfl) (by kernel_rfl) (by kernel_rfl) (by rfl) (by intro w hSw; (try dsimp only at hSw); go_simp; try with_reducible rfl) ?_
        (try simp only [Act.put, List.setIfInBounds_toArray, List.set_cons_zero, List.set_cons_succ])
        refine tkY 30 hHeld (by rfl) (by kernel_rfl) (by kernel_rfl) (by kernel_rfl) (by rfl) (by intro w hSw; (try dsimp only at hSw); go_simp; try with_reducible rfl) ?_
        refine tkN 31 hHeld (by rfl) (by kernel_rfl) (by kernel_rfl) (by kernel_rfl) (by rfl) ?_
        refine tkN 32 hHeld (by rfl) (by kernel_rfl) (by kernel_rfl) (by kernel_rfl) (by rfl) ?_
        refine tkN 33 hHeld (by rfl) (by kernel_rfl) (by kernel_rfl) (by kernel_rfl) (by rfl) ?_
        (try simp only [Act.put, List.setIfInBounds_toArray, List.set_cons_zero, List.set_cons_succ])
        refine tkY 34 hHeld (by rfl) (by kernel_rfl) (by kernel_rfl) (by kernel_rfl) (by rfl) (by intro w hSw; (try dsimp only at hSw); go_simp; try with_reducible rfl) ?_
        (try simp only [Act.put, List.setIfInBounds_toArray, List.set_cons_zero, List.set_cons_succ])
        refine wpAnyH_done (by kernel_rfl) ?_ _
        refine NoPanic.normal ?_
        go_wp2
        go_ret
        exact ⟨rfl, B3 _ _ _⟩
    case step2 =>
      go_simp
      (go_at_call 155; refine (l2Ariths_any _).mono ?_; rintro e' w' ⟨rfl, rfl⟩)
      (try go_wp2_with fail)
      refine hK.out _ _ ?hS16 (fun hHeld' => ?rest16)
      case hS16 => ((try dsimp only); (go_split_ands; refine ⟨?_, ?_, ?_, ?_, ?_, ?_, ?_, ?_⟩ <;> first | (simp [go_sem]; done) | exact cell_below hb' (by assumption)))
      clear hK K
      (try simp only [Act.put, List.setIfInBounds_toArray, List.set_cons_zero, List.set_cons_succ])
      clear hHeld
      have hHeld := hHeld'
      clear hHeld'
      refine wpAnyH_ready (rs := [2]) (by kernel_rfl) (by simp) ?_
      refine AllReadyH.cons (o := ?o17) ?ho17 (fun K hK => ?step17) AllReadyH.nil
      case ho17 => (simp only [List.getElem?_toArray, List.getElem?_cons_succ, List.getElem?_cons_zero]; rfl)
      go_simp
      refine hK.out _ _ ?hS18 (fun hHeld' => ?rest18)
      case hS18 => ((try dsimp only); (go_split_ands; refine ⟨?_, ?_, ?_, ?_, ?_, ?_, ?_, ?_⟩ <;> first | (simp [go_sem]; done) | exact cell_below hb' (by assumption)))
      clear hK K
      (try simp only [Act.put, List.setIfInBounds_toArray, List.set_cons_zero, List.set_cons_succ])
      clear hHeld
      have hHeld := hHeld'
      clear hHeld'
      refine wpAnyH_ready (rs := [3]) (by kernel_rfl) (by simp) ?_
      refine AllReadyH.cons (o := ?o19) ?ho19 (fun K hK => ?step19) AllReadyH.nil
      case ho19 => (simp only [List.getElem?_toArray, List.getElem?_cons_succ, List.getElem?_cons_zero]; rfl)
      go_simp
      refine hK.out _ _ ?hS20 (fun hHeld' => ?rest20)
      case hS20 => ((try dsimp only); (go_split_ands; refine ⟨?_, ?_, ?_, ?_, ?_, ?_, ?_, ?_⟩ <;> first | (simp [go_sem]; done) | exact cell_below hb' (by assumption)))
      clear hK K
      (try simp only [Act.put, List.setIfInBounds_toArray, List.set_cons_zero, List.set_cons_succ])
      clear hHeld
      have hHeld := hHeld'
      clear hHeld'
      refine wpAnyH_ready (rs := [5]) (by kernel_rfl) (by simp) ?_
      refine AllReadyH.cons (o := ?o21) ?ho21 (fun K hK => ?step21) AllReadyH.nil
      case ho21 => (simp only [List.getElem?_toArray, List.getElem?_cons_succ, List.getElem?_cons_zero]; rfl)
      go_simp
      (go_at_call 141; refine (hIs.out _ _ ?_).mono ?_; (first | exact ar_new _ _ _ (by simp) | exact ar_old _ _ _ _ (by simp)); rintro e' w' ⟨rfl, rfl⟩)
      (try go_wp2_with fail)
      refine hK.out _ _ ?hS22 (fun hHeld' => ?rest22)
      case hS22 => ((try dsimp only); (go_split_ands; refine ⟨?_, ?_, ?_, ?_, ?_, ?_, ?_, ?_⟩ <;> first | (simp [go_sem]; done) | exact cell_below hb' (by assumption)))
      clear hK K
      (try simp only [Act.put, List.setIfInBounds_toArray, List.set_cons_zero, List.set_cons_succ])
      clear hHeld
      have hHeld := hHeld'
      clear hHeld'
      refine tkY 6 hHeld (by rfl) (by kernel_rfl) (by kernel_rfl) (by kernel_rfl) (by rfl) (by intro w hSw; (try dsimp only at hSw); go_simp; try with_reducible rfl) ?_
      (try simp only [Act.put, List.setIfInBounds_toArray, List.set_cons_zero, List.set_cons_succ])
      refine tkY 7 hHeld (by rfl) (by kernel_rfl) (by kernel_rfl) (by kernel_rfl) (by rfl) (by intro w hSw; (try dsimp only at hSw); go_simp; try with_reducible rfl) ?_
      refine tkN 8 hHeld (by rfl) (by kernel_rfl) (by kernel_rfl) (by kernel_rfl) (by rfl) ?_
      refine tkN 9 hHeld (by rfl) (by kernel_rfl) (by kernel_rfl) (by kernel_rfl) (by rfl) ?_
      refine tkN 10 hHeld (by rfl) (by kernel_rfl) (by kernel_rfl) (by kernel_rfl) (by rfl) ?_
      (try simp only [Act.put, List.setIfInBounds_toArray, List.set_cons_zero, List.set_cons_succ])
      refine tkY 11 hHeld (by rfl) (by kernel_rfl) (by kernel_rfl) (by kernel_rfl) (by rfl) (by intro w hSw; (try dsimp only at hSw); go_simp; try with_reducible rfl) ?_
      (try simp only [Act.put, List.setIfInBounds_toArray, List.set_cons_zero, List.set_cons_succ])
      refine tkY 12 hHeld (by rfl) (by kernel_rfl) (by kernel_rfl) (by kernel_rfl) (by rfl) (by intro w hSw; (try dsimp only at hSw); go_simp; try with_reducible rfl) ?_
      refine tkN 13 hHeld (by rfl) (by kernel_rfl) (by kernel_rfl) (by kernel_rfl) (by rfl) ?_
      refine tkN 14 hHeld (by rfl) (by kernel_rfl) (by kernel_rfl) (by kernel_rfl) (by rfl) ?_
      refine tkN 15 hHeld (by rfl) (by kernel_rfl) (by kernel_rfl) (by kernel_rfl) (by rfl) ?_
      (try simp only [Act.put, List.setIfInBounds_toArray, List.set_cons_zero, List.set_cons_succ])
      refine tkN 16 hHeld (by rfl) (by kernel_rfl) (by kernel_rfl) (by kernel_rfl) (by rfl) ?_
      (try simp only [Act.put, List.setIfInBounds_toArray, List.set_cons_zero, List.set_cons_succ])
      refine tkY 17 hHeld (by rfl) (by kernel_rfl) (by kernel_rfl) (by kernel_rfl) (by rfl) (by intro w hSw; (try dsimp only at hSw); go_simp; try with_reducible rfl) ?_
      (try simp only [Act.put, List.setIfInBounds_toArray, List.set_cons_zero, List.set_cons_succ])
      refine tkY 18 hHeld (by rfl) (by kernel_rfl) (by kernel_rfl) (by kernel_rfl) (by rfl) (by intro w hSw; (try dsimp only at hSw); go_simp; try with_reducible rfl) ?_
      refine tkN 19 hHeld (by rfl) (by kernel_rfl) (by kernel_rfl) (by kernel_rfl) (by rfl) ?_
      refine tkN 20 hHeld (by rfl) (by kernel_rfl) (by kernel_rfl) (by kernel_rfl) (by rfl) ?_
      refine tkN 21 hHeld (by rfl) (by kernel_rfl) (by kernel_rfl) (by kernel_rfl) (by rfl) ?_
      (try simp only [Act.put, List.setIfInBounds_toArray, List.set_cons_zero, List.set_cons_succ])
      refine tkN 22 hHeld (by rfl) (by kernel_rfl) (by kernel_rfl) (by kernel_rfl) (by rfl) ?_
      refine tkN 23 hHeld (by rfl) (by kernel_rfl) (by kernel_rfl) (by kernel_rfl) (by rfl) ?_
      (try simp only [Act.put, List.setIfInBounds_toArray, List.set_cons_zero, List.set_cons_succ])
      refine tkY 24 hHeld (by rfl) (by kernel_rfl) (by kernel_rfl) (by kernel_rfl) (by rfl) (by intro w hSw; (try dsimp only at hSw); go_simp; try with_reducible rfl) ?_
      (try simp only [Act.put, List.setIfInBounds_toArray, List.set_cons_zero, List.set_cons_succ])
      refine tkY 25 hHeld (by rfl) (by kernel_rfl) (by kernel_rfl) (by kernel_rfl) (by rfl) (by intro w hSw; (try dsimp only at hSw); go_simp; try with_reducible rfl) ?_
      refine tkN 26 hHeld (by rfl) (by kernel_rfl) (by kernel_rfl) (by kernel_rfl) (by rfl) ?_
      refine tkN 27 hHeld (by rfl) (by kernel_rfl) (by kernel_rfl) (by kernel_rfl) (by rfl) ?_
      refine tkN 28 hHeld (by rfl) (by kernel_rfl) (by kernel_rfl) (by kernel_rfl) (by rfl) ?_
      (try simp only [Act.put, List.setIfInBounds_toArray, List.set_cons_zero, List.set_cons_succ])
      refine tkY 29 hHeld (by rfl) (by kernel_rfl) (by kernel_rfl) (by kernel_rfl) (by rfl) (by intro w hSw; (try dsimp only at hSw); go_simp; try with_reducible rfl) ?_
      (try simp only [Act.put, List.setIfInBounds_toArray, List.set_cons_zero, List.set_cons_succ])
      refine tkY 30 hHeld (by rfl) (by kernel_rfl) (by kernel_rfl) (by kernel_rfl) (by rfl) (by intro w hSw; (try dsimp only at hSw); go_simp; try with_reducible rfl) ?_
      refine tkN 31 hHeld (by rfl) (by kernel_rfl) (by kernel_rfl) (by kernel_rfl) (by rfl) ?_
      refine tkN 32 hHeld (by rfl) (by kernel_rfl) (by kernel_rfl) (by kernel_rfl) (by rfl) ?_
      refine tkN 33 hHeld (by rfl) (by kernel_rfl) (by kernel_rfl) (by kernel_rfl) (by rfl) ?_
      (try simp only [Act.put, List.setIfInBounds_toArray, List.set_cons_zero, List.set_cons_succ])
      refine tkY 34 hHeld (by rfl) (by kernel_rfl) (by kernel_rfl) (by kernel_rfl) (by rfl) (by intro w hSw; (try dsimp only at hSw); go_simp; try with_reducible rfl) ?_
      (try simp only [Act.put, List.setIfInBounds_toArray, List.set_cons_zero, List.set_cons_succ])
      refine wpAnyH_done (by kernel_rfl) ?_ _
      refine NoPanic.normal ?_
      go_wp2
      go_ret
      exact ⟨rfl, B3 _ _ _⟩
  · go_enter Tryz.func139, Tryz.ntmps139
    go_wp2
    clear c0 c1 c2 c3 c4 c5 c6 c7 he hkl hv0
    (try clear h3); (try clear h2); clear h1
    refine wp_region_noPanic ?_
    refine wp_region_held_drew (S := (fun w' => w'.cell? ⟨w.heap.size, 0, none⟩ = some (.int .i64 2) ∧ w'.cell? ⟨w.heap.size, 1, none⟩ = some (.int .u8 e.op) ∧ w'.cell? ⟨w.heap.size, 2, none⟩ = some (.string e.var) ∧ w'.cell? ⟨w.heap.size, 3, none⟩ = some (.int .i64 e.val.kind) ∧ w'.cell? ⟨w.heap.size, 4, none⟩ = some (.int .i64 e.val.num) ∧ w'.cell? ⟨w.heap.size, 5, none⟩ = some (.string e.val.sym) ∧ w'.cell? ⟨w.heap.size, 6, none⟩ = some (.int .i64 e.a) ∧ w'.cell? ⟨w.heap.size, 7, none⟩ = some (.int .i64 e.b))) (by kernel_rfl) ?_ (fun hHeld => ?_)
    · (try dsimp only)
      (go_split_ands; refine ⟨?_, ?_, ?_, ?_, ?_, ?_, ?_, ?_⟩ <;> first | (simp [go_sem]; done) | exact cell_below hb' (by assumption))
    refine tkY 0 hHeld (by rfl) (by kernel_rfl) (by kernel_rfl) (by kernel_rfl) (by rfl) (by intro w hSw; (try dsimp only at hSw); go_simp; try with_reducible rfl) ?_
    (try simp only [Act.put, List.setIfInBounds_toArray, List.set_cons_zero, List.set_cons_succ])
    refine tkY 1 hHeld (by rfl) (by kernel_rfl) (by kernel_rfl) (by kernel_rfl) (by rfl) (by intro w hSw; (try dsimp only at hSw); go_simp; try with_reducible rfl) ?_
    (try simp only [Act.put, List.setIfInBounds_toArray, List.set_cons_zero, List.set_cons_succ])
    refine wpAnyH_ready (rs := [2, 4]) (by kernel_rfl) (by simp) ?_
    refine AllReadyH.cons (o := ?o23) ?ho23 (fun K hK => ?step23) (AllReadyH.cons (o := ?o24) ?ho24 (fun K hK => ?step24) AllReadyH.nil)
    case ho23 => (simp only [List.getElem?_toArray, List.getElem?_cons_succ, List.getElem?_cons_zero]; rfl)
    case ho24 => (simp only [List.getElem?_toArray, List.getElem?_cons_succ, List.getElem?_cons_zero]; rfl)
    case step23 =>
      go_simp
      refine hK.out _ _ ?hS25 (fun hHeld' => ?rest25)
      case hS25 => ((try dsimp only); (go_split_ands; refine ⟨?_, ?_, ?_, ?_, ?_, ?_, ?_, ?_⟩ <;> first | (simp [go_sem]; done) | exact cell_below hb' (by assumption)))
      clear hK K
      (try simp only [Act.put, List.setIfInBounds_toArray, List.set_cons_zero, List.set_cons_succ])
      clear hHeld
      have hHeld := hHeld'
      clear hHeld'
      refine wpAnyH_ready (rs := [3, 4]) (by kernel_rfl) (by simp) ?_
      refine AllReadyH.cons (o := ?o26) ?ho26 (fun K hK => ?step26) (AllReadyH.cons (o := ?o27) ?ho27 (fun K hK => ?step27) AllReadyH.nil)
      case ho26 => (simp only [List.getElem?_toArray, List.getElem?_cons_succ, List.getElem?_cons_zero]; rfl)
      case ho27 => (simp only [List.getElem?_toArray, List.getElem?_cons_succ, List.getElem?_cons_zero]; rfl)
      case step26 =>
        go_simp
        refine hK.out _ _ ?hS28 (fun hHeld' => ?rest28)
        case hS28 => ((try dsimp only); (go_split_ands; refine ⟨?_, ?_, ?_, ?_, ?_, ?_, ?_, ?_⟩ <;> first | (simp [go_sem]; done) | exact cell_below hb' (by assumption)))
        clear hK K
        (try simp only [Act.put, List.setIfInBounds_toArray, List.set_cons_zero, List.set_cons_succ])
        clear hHeld
        have hHeld := hHeld'
        clear hHeld'
        refine wpAnyH_ready (rs := [4]) (by kernel_rfl) (by simp) ?_
        refine AllReadyH.cons (o := ?o29) ?ho29 (fun K hK => ?step29) AllReadyH.nil
        case ho29 => (simp only [List.getElem?_toArray, List.getElem?_cons_succ, List.getElem?_cons_zero]; rfl)
        go_simp
        (go_at_call 155; refine (l2Ariths_any _).mono ?_; rintro e' w' ⟨rfl, rfl⟩)
        (try go_wp2_with fail)
        refine hK.out _ _ ?hS30 (fun hHeld' => ?rest30)
        case hS30 => ((try dsimp only); (go_split_ands; refine ⟨?_, ?_, ?_, ?_, ?_, ?_, ?_, ?_⟩ <;> first | (simp [go_sem]; done) | exact cell_below hb' (by assumption)))
        clear hK K
        (try simp only [Act.put, List.setIfInBounds_toArray, List.set_cons_zero, List.set_cons_succ])
        clear hHeld
        have hHeld := hHeld'
        clear hHeld'
        refine wpAnyH_ready (rs := [5]) (by kernel_rfl) (by simp) ?_
        refine AllReadyH.cons (o := ?o31) ?ho31 (fun K hK => ?step31) AllReadyH.nil
        case ho31 => (simp only [List.getElem?_toArray, List.getElem?_cons_succ, List.getElem?_cons_zero]; rfl)
        go_simp
        (go_at_call 141; refine (hIs.out _ _ ?_).mono ?_; (first | exact ar_new _ _ _ (by simp) | exact ar_old _ _ _ _ (by simp)); rintro e' w' ⟨rfl, rfl⟩)
        (try go_wp2_with fail)
        refine hK.out _ _ ?hS32 (fun hHeld' => ?rest32)
        case hS32 => ((try dsimp only); (go_split_ands; refine ⟨?_, ?_, ?_, ?_, ?_, ?_, ?_, ?_⟩ <;> first | (simp [go_sem]; done) | exact cell_below hb' (by assumption)))
        clear hK K
        (try simp only [Act.put, List.setIfInBounds_toArray, List.set_cons_zero, List.set_cons_succ])
        clear hHeld
        have hHeld := hHeld'
        clear hHeld'
        refine tkY 6 hHeld (by rfl) (by kernel_rfl) (by kernel_rfl) (by kernel_rfl) (by rfl) (by intro w hSw; (try dsimp only at hSw); go_simp; try with_reducible rfl) ?_
        (try simp only [Act.put, List.setIfInBounds_toArray, List.set_cons_zero, List.set_cons_succ])
        refine tkY 7 hHeld (by rfl) (by kernel_rfl) (by kernel_rfl) (by kernel_rfl) (by rfl) (by intro w hSw; (try dsimp only at hSw); go_simp; try with_reducible rfl) ?_
        refine tkN 8 hHeld (by rfl) (by kernel_rfl) (by kernel_rfl) (by kernel_rfl) (by rfl) ?_
        refine tkN 9 hHeld (by rfl) (by kernel_rfl) (by kernel_rfl) (by kernel_rfl) (by rfl) ?_
        refine tkN 10 hHeld (by rfl) (by kernel_rfl) (by kernel_rfl) (by kernel_rfl) (by rfl) ?_
        (try simp only [Act.put, List.setIfInBounds_toArray, List.set_cons_zero, List.set_cons_succ])
        refine tkY 11 hHeld (by rfl) (by kernel_rfl) (by kernel_rfl) (by kernel_rfl) (by rfl) (by intro w hSw; (try dsimp only at hSw); go_simp; try with_reducible rfl) ?_
        (try simp only [Act.put, List.setIfInBounds_toArray, List.set_cons_zero, List.set_cons_succ])
        refine tkY 12 hHeld (by rfl) (by kernel_rfl) (by kernel_rfl) (by kernel_rfl) (by rfl) (by intro w hSw; (try dsimp only at hSw); go_simp; try with_reducible rfl) ?_
        refine tkN 13 hHeld (by rfl) (by kernel_rfl) (by kernel_rfl) (by kernel_rfl) (by rfl) ?_
        refine tkN 14 hHeld (by rfl) (by kernel_rfl) (by kernel_rfl) (by kernel_rfl) (by rfl) ?_
        refine tkN 15 hHeld (by rfl) (by kernel_rfl) (by kernel_rfl) (by kernel_rfl) (by rfl) ?_
        (try simp only [Act.put, List.setIfInBounds_toArray, List.set_cons_zero, List.set_cons_succ])
        refine tkN 16 hHeld (by rfl) (by kernel_rfl) (by kernel_rfl) (by kernel_rfl) (by rfl) ?_
        (try simp only [Act.put, List.setIfInBounds_toArray, List.set_cons_zero, List.set_cons_succ])
        refine tkY 17 hHeld (by rfl) (by kernel_rfl) (by kernel_rfl) (by kernel_rfl) (by rfl) (by intro w hSw; (try dsimp only at hSw); go_simp; try with_reducible rfl) ?_
        (try simp only [Act.put, List.setIfInBounds_toArray, List.set_cons_zero, List.set_cons_succ])
        refine tkY 18 hHeld (by rfl) (by kernel_rfl) (by kernel_rfl) (by kernel_rfl) (by rfl) (by intro w hSw; (try dsimp only at hSw); go_simp; try with_reducible rfl) ?_
        refine tkN 19 hHeld (by rfl) (by kernel_rfl) (by kernel_rfl) (by kernel_rfl) (by rfl) ?_
        refine tkN 20 hHeld (by rfl) (by kernel_rfl) (by kernel_rfl) (by kernel_rfl) (by rfl) ?_
        refine tkN 21 hHeld (by rfl) (by kernel_rfl) (by kernel_rfl) (by kernel_rfl) (by rfl) ?_
        (try simp only [Act.put, List.setIfInBounds_toArray, List.set_cons_zero, List.set_cons_succ])
        refine tkN 22 hHeld (by rfl) (by kernel_rfl) (by kernel_rfl) (by kernel_rfl) (by rfl) ?_
        refine tkN 23 hHeld (by rfl) (by kernel_rfl) (by kernel_rfl) (by kernel_rfl) (by rfl) ?_
        (try simp only [Act.put, List.setIfInBounds_toArray, List.set_cons_zero, List.set_cons_succ])
        refine tkY 24 hHeld (by rfl) (by kernel_rfl) (by kernel_rfl) (by kernel_rfl) (by rfl) (by intro w hSw; (try dsimp only at hSw); go_simp; try with_reducible rfl) ?_
        (try simp only [Act.put, List.setIfInBounds_toArray, List.set_cons_zero, List.set_cons_succ])
        refine tkY 25 hHeld (by rfl) (by kernel_rfl) (by kernel_rfl) (by kernel_rfl) (by rfl) (by intro w hSw; (try dsimp only at hSw); go_simp; try with_reducible rfl) ?_
        refine tkN 26 hHeld (by rfl) (by kernel_rfl) (by kernel_rfl) (by kernel_rfl) (by rfl) ?_
        refine tkN 27 hHeld (by rfl) (by kernel_rfl) (by kernel_rfl) (by kernel_rfl) (by rfl) ?_
        refine tkN 28 hHeld (by rfl) (by kernel_rfl) (by kernel_rfl) (by kernel_rfl) (by rfl) ?_
        (try simp only [Act.put, List.setIfInBounds_toArray, List.set_cons_zero, List.set_cons_succ])
        refine tkY 29 hHeld (by rfl) (by kernel_rfl) (by kernel_rfl) (by kernel_rfl) (by rfl) (by intro w hSw; (try dsimp only at hSw); go_simp; try with_reducible rfl) ?_
        (try simp only [Act.put, List.setIfInBounds_toArray, List.set_cons_zero, List.set_cons_succ])
        refine tkY 30 hHeld (by rfl) (by kernel_rfl) (by kernel_rfl) (by kernel_rfl) (by rfl) (by intro w hSw; (try dsimp only at hSw); go_simp; try with_reducible rfl) ?_
        refine tkN 31 hHeld (by rfl) (by kernel_rfl) (by kernel_rfl) (by kernel_rfl) (by rfl) ?_
        refine tkN 32 hHeld (by rfl) (by kernel_rfl) (by kernel_rfl) (by kernel_rfl) (by rfl) ?_
        refine tkN 33 hHeld (by rfl) (by kernel_rfl) (by kernel_rfl) (by kernel_rfl) (by rfl) ?_
        (try simp only [Act.put, List.setIfInBounds_toArray, List.set_cons_zero, List.set_cons_succ])
        refine tkY 34 hHeld (by rfl) (by kernel_rfl) (by kernel_rfl) (by kernel_rfl) (by rfl) (by intro w hSw; (try dsimp only at hSw); go_simp; try with_reducible rfl) ?_
        (try simp only [Act.put, List.setIfInBounds_toArray, List.set_cons_zero, List.set_cons_succ])
        refine wpAnyH_done (by kernel_rfl) ?_ _
        refine NoPanic.normal ?_
        go_wp2
        go_ret
        exact ⟨rfl, B3 _ _ _⟩
      case step27 =>
        go_simp
        (go_at_call 155; refine (l2Ariths_any _).mono ?_; rintro e' w' ⟨rfl, rfl⟩)
        (try go_wp2_with fail)
        refine hK.out _ _ ?hS33 (fun hHeld' => ?rest33)
        case hS33 => ((try dsimp only); (go_split_ands; refine ⟨?_, ?_, ?_, ?_, ?_, ?_, ?_, ?_⟩ <;> first | (simp [go_sem]; done) | exact cell_below hb' (by assumption)))
        clear hK K
        (try simp only [Act.put, List.setIfInBounds_toArray, List.set_cons_zero, List.set_cons_succ])
        clear hHeld
        have hHeld := hHeld'
        clear hHeld'
        refine wpAnyH_ready (rs := [3]) (by kernel_rfl) (by simp) ?_
        refine AllReadyH.cons (o := ?o34) ?ho34 (fun K hK => ?step34) AllReadyH.nil
        case ho34 => (simp only [List.getElem?_toArray, List.getElem?_cons_succ, List.getElem?_cons_zero]; rfl)
        go_simp
        refine hK.out _ _ ?hS35 (fun hHeld' => ?rest35)
        case hS35 => ((try dsimp only); (go_split_ands; refine ⟨?_, ?_, ?_, ?_, ?_, ?_, ?_, ?_⟩ <;> first | (simp [go_sem]; done) | exact cell_below hb' (by assumption)))
        clear hK K
        (try simp only [Act.put, List.setIfInBounds_toArray, List.set_cons_zero, List.set_cons_succ])
        clear hHeld
        have hHeld := hHeld'
        clear hHeld'
        refine wpAnyH_ready (rs := [5]) (by kernel_rfl) (by simp) ?_
        refine AllReadyH.cons (o := ?o36) ?ho36 (fun K hK => ?step36) AllReadyH.nil
        case ho36 => (simp only [List.getElem?_toArray, List.getElem?_cons_succ, List.getElem?_cons_zero]; rfl)
        go_simp
        (go_at_call 141; refine (hIs.out _ _ ?_).mono ?_; (first | exact ar_new _ _ _ (by simp) | exact ar_old _ _ _ _ (by simp)); rintro e' w' ⟨rfl, rfl⟩)
        (try go_wp2_with fail)
        refine hK.out _ _ ?hS37 (fun hHeld' => ?rest37)
        case hS37 => ((try dsimp only); (go_split_ands; refine ⟨?_, ?_, ?_, ?_, ?_, ?_, ?_, ?_⟩ <;> first | (simp [go_sem]; done) | exact cell_below hb' (by assumption)))
        clear hK K
        (try simp only [Act.put, List.setIfInBounds_toArray, List.set_cons_zero, List.set_cons_succ])
        clear hHeld
        have hHeld := hHeld'
        clear hHeld'
        refine tkY 6 hHeld (by rfl) (by kernel_rfl) (by kernel_rfl) (by kernel_rfl) (by rfl) (by intro w hSw; (try dsimp only at hSw); go_simp; try with_reducible rfl) ?_
        (try simp only [Act.put, List.setIfInBounds_toArray, List.set_cons_zero, List.set_cons_succ])
        refine tkY 7 hHeld (by rfl) (by kernel_rfl) (by kernel_rfl) (by kernel_rfl) (by rfl) (by intro w hSw; (try dsimp only at hSw); go_simp; try with_reducible rfl) ?_
        refine tkN 8 hHeld (by rfl) (by kernel_rfl) (by kernel_rfl) (by kernel_rfl) (by rfl) ?_
        refine tkN 9 hHeld (by rfl) (by kernel_rfl) (by kernel_rfl) (by kernel_rfl) (by rfl) ?_
        refine tkN 10 hHeld (by rfl) (by kernel_rfl) (by kernel_rfl) (by kernel_rfl) (by rfl) ?_
        (try simp only [Act.put, List.setIfInBounds_toArray, List.set_cons_zero, List.set_cons_succ])
        refine tkY 11 hHeld (by rfl) (by kernel_rfl) (by kernel_rfl) (by kernel_rfl) (by rfl) (by intro w hSw; (try dsimp only at hSw); go_simp; try with_reducible rfl) ?_
        (try simp only [Act.put, List.setIfInBounds_toArray, List.set_cons_zero, List.set_cons_succ])
        refine tkY 12 hHeld (by rfl) (by kernel_rfl) (by kernel_rfl) (by kernel_rfl) (by rfl) (by intro w hSw; (try dsimp only at hSw); go_simp; try with_reducible rfl) ?_
        refine tkN 13 hHeld (by rfl) (by kernel_rfl) (by kernel_rfl) (by kernel_rfl) (by rfl) ?_
        refine tkN 14 hHeld (by rfl) (by kernel_rfl) (by kernel_rfl) (by kernel_rfl) (by rfl) ?_
        refine tkN 15 hHeld (by rfl) (by kernel_rfl) (by kernel_rfl) (by kernel_rfl) (by rfl) ?_
        (try simp only [Act.put, List.setIfInBounds_toArray, List.set_cons_zero, List.set_cons_succ])
        refine tkN 16 hHeld (by rfl) (by kernel_rfl) (by kernel_rfl) (by kernel_rfl) (by rfl) ?_
        (try simp only [Act.put, List.setIfInBounds_toArray, List.set_cons_zero, List.set_cons_succ])
        refine tkY 17 hHeld (by rfl) (by kernel_rfl) (by kernel_rfl) (by kernel_rfl) (by rfl) (by intro w hSw; (try dsimp only at hSw); go_simp; try with_reducible rfl) ?_
        (try simp only [Act.put, List.setIfInBounds_toArray, List.set_cons_zero, List.set_cons_succ])
        refine tkY 18 hHeld (by rfl) (by kernel_rfl) (by kernel_rfl) (by kernel_rfl) (by rfl) (by intro w hSw; (try dsimp only at hSw); go_simp; try with_reducible rfl) ?_
        refine tkN 19 hHeld (by rfl) (by kernel_rfl) (by kernel_rfl) (by kernel_rfl) (by rfl) ?_
        refine tkN 20 hHeld (by rfl) (by kernel_rfl) (by kernel_rfl) (by kernel_rfl) (by rfl) ?_
        refine tkN 21 hHeld (by rfl) (by kernel_rfl) (by kernel_rfl) (by kernel_rfl) (by rfl) ?_
        (try simp only [Act.put, List.setIfInBounds_toArray, List.set_cons_zero, List.set_cons_succ])
        refine tkN 22 hHeld (by rfl) (by kernel_rfl) (by kernel_rfl) (by kernel_rfl) (by rfl) ?_
        refine tkN 23 hHeld (by rfl) (by kernel_rfl) (by kernel_rfl) (by kernel_rfl) (by rfl) ?_
        (try simp only [Act.put, List.setIfInBounds_toArray, List.set_cons_zero, List.set_cons_succ])
        refine tkY 24 hHeld (by rfl) (by kernel_rfl) (by kernel_rfl) (by kernel_rfl) (by rfl) (by intro w hSw; (try dsimp only at hSw); go_simp; try with_reducible rfl) ?_
        (try simp only [Act.put, List.setIfInBounds_toArray, List.set_cons_zero, List.set_cons_succ])
        refine tkY 25 hHeld (by rfl) (by kernel_rfl) (by kernel_rfl) (by kernel_rfl) (by rfl) (by intro w hSw; (try dsimp only at hSw); go_simp; try with_reducible rfl) ?_
        refine tkN 26 hHeld (by rfl) (by kernel_rfl) (by kernel_rfl) (by kernel_rfl) (by rfl) ?_
        refine tkN 27 hHeld (by rfl) (by kernel_rfl) (by kernel_rfl) (by kernel_rfl) (by rfl) ?_
        refine tkN 28 hHeld (by rfl) (by kernel_rfl) (by kernel_rfl) (by kernel_rfl) (by rfl) ?_
        (try simp only [Act.put, List.setIfInBounds_toArray, List.set_cons_zero, List.set_cons_succ])
        refine tkY 29 hHeld (by rfl) (by kernel_rfl) (by kernel_rfl) (by kernel_rfl) (by rfl) (by intro w hSw; (try dsimp only at hSw); go_simp; try with_reducible rfl) ?_
        (try simp only [Act.put, List.setIfInBounds_toArray, List.set_cons_zero, List.set_cons_succ])
        refine tkY 30 hHeld (by rfl) (by kernel_rfl) (by kernel_rfl) (by kernel_rfl) (by rfl) (by intro w hSw; (try dsimp only at hSw); go_simp; try with_reducible rfl) ?_
        refine tkN 31 hHeld (by rfl) (by kernel_rfl) (by kernel_rfl) (by kernel_rfl) (by rfl) ?_
        refine tkN 32 hHeld (by rfl) (by kernel_rfl) (by kernel_rfl) (by kernel_rfl) (by rfl) ?_
        refine tkN 33 hHeld (by rfl) (by kernel_rfl) (by kernel_rfl) (by kernel_rfl) (by rfl) ?_
        (try simp only [Act.put, List.setIfInBounds_toArray, List.set_cons_zero, List.set_cons_succ])
        refine tkY 34 hHeld (by rfl) (by kernel_rfl) (by kernel_rfl) (by kernel_rfl) (by rfl) (by intro w hSw; (try dsimp only at hSw); go_simp; try with_reducible rfl) ?_
        (try simp only [Act.put, List.setIfInBounds_toArray, List.set_cons_zero, List.set_cons_succ])
        refine wpAnyH_done (by kernel_rfl) ?_ _
        refine NoPanic.normal ?_
        go_wp2
        go_ret
        exact ⟨rfl, B3 _ _ _⟩
    case step24 =>
      go_simp
      (go_at_call 155; refine (l2Ariths_any _).mono ?_; rintro e' w' ⟨rfl, rfl⟩)
      (try go_wp2_with fail)
      refine hK.out _ _ ?hS38 (fun hHeld' => ?rest38)
      case hS38 => ((try dsimp only); (go_split_ands; refine ⟨?_, ?_, ?_, ?_, ?_, ?_, ?_, ?_⟩ <;> first | (simp [go_sem]; done) | exact cell_below hb' (by assumption)))
      clear hK K
      (try simp only [Act.put, List.setIfInBounds_toArray, List.set_cons_zero, List.set_cons_succ])
      clear hHeld
      have hHeld := hHeld'
      clear hHeld'
      refine wpAnyH_ready (rs := [2]) (by kernel_rfl) (by simp) ?_
      refine AllReadyH.cons (o := ?o39) ?ho39 (fun K hK => ?step39) AllReadyH.nil
      case ho39 => (simp only [List.getElem?_toArray, List.getElem?_cons_succ, List.getElem?_cons_zero]; rfl)
      go_simp
      refine hK.out _ _ ?hS40 (fun hHeld' => ?rest40)
      case hS40 => ((try dsimp only); (go_split_ands; refine ⟨?_, ?_, ?_, ?_, ?_, ?_, ?_, ?_⟩ <;> first | (simp [go_sem]; done) | exact cell_below hb' (by assumption)))
      clear hK K
      (try simp only [Act.put, List.setIfInBounds_toArray, List.set_cons_zero, List.set_cons_succ])
      clear hHeld
      have hHeld := hHeld'
      clear hHeld'
      refine wpAnyH_ready (rs := [3]) (by kernel_rfl) (by simp) ?_
      refine AllReadyH.cons (o := ?o41) ?ho41 (fun K hK => ?step41) AllReadyH.nil
      case ho41 => (simp only [List.getElem?_toArray, List.getElem?_cons_succ, List.getElem?_cons_zero]; rfl)
      go_simp
      refine hK.out _ _ ?hS42 (fun hHeld' => ?rest42)
      case hS42 => ((try dsimp only); (go_split_ands; refine ⟨?_, ?_, ?_, ?_, ?_, ?_, ?_, ?_⟩ <;> first | (simp [go_sem]; done) | exact cell_below hb' (by assumption)))
      clear hK K
      (try simp only [Act.put, List.setIfInBounds_toArray, List.set_cons_zero, List.set_cons_succ])
      clear hHeld
      have hHeld := hHeld'
      clear hHeld'
      refine wpAnyH_ready (rs := [5]) (by kernel_rfl) (by simp) ?_
      refine AllReadyH.cons (o := ?o43) ?ho43 (fun K hK => ?step43) AllReadyH.nil
      case ho43 => (simp only [List.getElem?_toArray, List.getElem?_cons_succ, List.getElem?_cons_zero]; rfl)
      go_simp
      (go_at_call 141; refine (hIs.out _ _ ?_).mono ?_; (first | exact ar_new _ _ _ (by simp) | exact ar_old _ _ _ _ (by simp)); rintro e' w' ⟨rfl, rfl⟩)
      (try go_wp2_with fail)
      refine hK.out _ _ ?hS44 (fun hHeld' => ?rest44)
      case hS44 => ((try dsimp only); (go_split_ands; refine ⟨?_, ?_, ?_, ?_, ?_, ?_, ?_, ?_⟩ <;> first | (simp [go_sem]; done) | exact cell_below hb' (by assumption)))
      clear hK K
      (try simp only [Act.put, List.setIfInBounds_toArray, List.set_cons_zero, List.set_cons_succ])
      clear hHeld
      have hHeld := hHeld'
      clear hHeld'
      refine tkY 6 hHeld (by rfl) (by kernel_rfl) (by kernel_rfl) (by kernel_rfl) (by rfl) (by intro w hSw; (try dsimp only at hSw); go_simp; try with_reducible rfl) ?_
      (try simp only [Act.put, List.setIfInBounds_toArray, List.set_cons_zero, List.set_cons_succ])
      refine tkY 7 hHeld (by rfl) (by kernel_rfl) (by kernel_rfl) (by kernel_rfl) (by rfl) (by intro w hSw; (try dsimp only at hSw); go_simp; try with_reducible rfl) ?_
      refine tkN 8 hHeld (by rfl) (by kernel_rfl) (by kernel_rfl) (by kernel_rfl) (by rfl) ?_
      refine tkN 9 hHeld (by rfl) (by kernel_rfl) (by kernel_rfl) (by kernel_rfl) (by rfl) ?_
      refine tkN 10 hHeld (by rfl) (by kernel_rfl) (by kernel_rfl) (by kernel_rfl) (by rfl) ?_
      (try simp only [Act.put, List.setIfInBounds_toArray, List.set_cons_zero, List.set_cons_succ])
      refine tkY 11 hHeld (by rfl) (by kernel_rfl) (by kernel_rfl) (by kernel_rfl) (by rfl) (by intro w hSw; (try dsimp only at hSw); go_simp; try with_reducible rfl) ?_
      (try simp only [Act.put, List.setIfInBounds_toArray, List.set_cons_zero, List.set_cons_succ])
      refine tkY 12 hHeld (by rfl) (by kernel_rfl) (by kernel_rfl) (by kernel_rfl) (by rfl) (by intro w hSw; (try dsimp only at hSw); go_simp; try with_reducible rfl) ?_
      refine tkN 13 hHeld (by rfl) (by kernel_rfl) (by kernel_rfl) (by kernel_rfl) (by rfl) ?_
      refine tkN 14 hHeld (by rfl) (by kernel_rfl) (by kernel_rfl) (by kernel_rfl) (by rfl) ?_
      refine tkN 15 hHeld (by rfl) (by kernel_rfl) (by kernel_rfl) (by kernel_rfl) (by rfl) ?_
      (try simp only [Act.put, List.setIfInBounds_toArray, List.set_cons_zero, List.set_cons_succ])
      refine tkN 16 hHeld (by rfl) (by kernel_rfl) (by kernel_rfl) (by kernel_rfl) (by rfl) ?_
      (try simp only [Act.put, List.setIfInBounds_toArray, List.set_cons_zero, List.set_cons_succ])
      refine tkY 17 hHeld (by rfl) (by kernel_rfl) (by kernel_rfl) (by kernel_rfl) (by rfl) (by intro w hSw; (try dsimp only at hSw); go_simp; try with_reducible rfl) ?_
      (try simp only [Act.put, List.setIfInBounds_toArray, List.set_cons_zero, List.set_cons_succ])
      refine tkY 18 hHeld (by rfl) (by kernel_rfl) (by kernel_rfl) (by kernel_rfl) (by rfl) (by intro w hSw; (try dsimp only at hSw); go_simp; try with_reducible rfl) ?_
      refine tkN 19 hHeld (by rfl) (by kernel_rfl) (by kernel_rfl) (by kernel_rfl) (by rfl) ?_
      refine tkN 20 hHeld (by rfl) (by kernel_rfl) (by kernel_rfl) (by kernel_rfl) (by rfl) ?_
      refine tkN 21 hHeld (by rfl) (by kernel_rfl) (by kernel_rfl) (by kernel_rfl) (by rfl) ?_
      (try simp only [Act.put, List.setIfInBounds_toArray, List.set_cons_zero, List.set_cons_succ])
      refine tkN 22 hHeld (by rfl) (by kernel_rfl) (by kernel_rfl) (by kernel_rfl) (by rfl) ?_
      refine tkN 23 hHeld (by rfl) (by kernel_rfl) (by kernel_rfl) (by kernel_rfl) (by rfl) ?_
      (try simp only [Act.put, List.setIfInBounds_toArray, List.set_cons_zero, List.set_cons_succ])
      refine tkY 24 hHeld (by rfl) (by kernel_rfl) (by kernel_rfl) (by kernel_rfl) (by rfl) (by intro w hSw; (try dsimp only at hSw); go_simp; try with_reducible rfl) ?_
      (try simp only [Act.put, List.setIfInBounds_toArray, List.set_cons_zero, List.set_cons_succ])
      refine tkY 25 hHeld (by rfl) (by kernel_rfl) (by kernel_rfl) (by kernel_rfl) (by rfl) (by intro w hSw; (try dsimp only at hSw); go_simp; try with_reducible rfl) ?_
      refine tkN 26 hHeld (by rfl) (by kernel_rfl) (by kernel_rfl) (by kernel_rfl) (by rfl) ?_
      refine tkN 27 hHeld (by rfl) (by kernel_rfl) (by kernel_rfl) (by kernel_rfl) (by rfl) ?_
      refine tkN 28 hHeld (by rfl) (by kernel_rfl) (by kernel_rfl) (by kernel_rfl) (by rfl) ?_
      (try simp only [Act.put, List.setIfInBounds_toArray, List.set_cons_zero, List.set_cons_succ])
      refine tkY 29 hHeld (by rfl) (by kernel_rfl) (by kernel_rfl) (by kernel_rfl) (by rfl) (by intro w hSw; (try dsimp only at hSw); go_simp; try with_reducible rfl) ?_
      (try simp only [Act.put, List.setIfInBounds_toArray, List.set_cons_zero, List.set_cons_succ])
      refine tkY 30 hHeld (by rfl) (by kernel_rfl) (by kernel_rfl) (by kernel_rfl) (by rfl) (by intro w hSw; (try dsimp only at hSw); go_simp; try with_reducible rfl) ?_
      refine tkN 31 hHeld (by rfl) (by kernel_rfl) (by kernel_rfl) (by kernel_rfl) (by rfl) ?_
      refine tkN 32 hHeld (by rfl) (by kernel_rfl) (by kernel_rfl) (by kernel_rfl) (by rfl) ?_
      refine tkN 33 hHeld (by rfl) (by kernel_rfl) (by kernel_rfl) (by kernel_rfl) (by rfl) ?_
      (try simp only [Act.put, List.setIfInBounds_toArray, List.set_cons_zero, List.set_cons_succ])
      refine tkY 34 hHeld (by rfl) (by kernel_rfl) (by kernel_rfl) (by kernel_rfl) (by rfl) (by intro w hSw; (try dsimp only at hSw); go_simp; try with_reducible rfl) ?_
      (try simp only [Act.put, List.setIfInBounds_toArray, List.set_cons_zero, List.set_cons_succ])
      refine wpAnyH_done (by kernel_rfl) ?_ _
      refine NoPanic.normal ?_
      go_wp2
      go_ret
      exact ⟨rfl, B3 _ _ _⟩
  · go_enter Tryz.func139, Tryz.ntmps139
    go_wp2
    clear c0 c1 c2 c3 c4 c5 c6 c7 he hkl hv0
    (try clear h3); (try clear h2); clear h1
    refine wp_region_noPanic ?_
    refine wp_region_held_drew (S := (fun w' => w'.cell? ⟨w.heap.size, 0, none⟩ = some (.int .i64 2) ∧ w'.cell? ⟨w.heap.size, 1, none⟩ = some (.int .u8 e.op) ∧ w'.cell? ⟨w.heap.size, 2, none⟩ = some (.string e.var) ∧ w'.cell? ⟨w.heap.size, 3, none⟩ = some (.int .i64 e.val.kind) ∧ w'.cell? ⟨w.heap.size, 4, none⟩ = some (.int .i64 e.val.num) ∧ w'.cell? ⟨w.heap.size, 5, none⟩ = some (.string e.val.sym) ∧ w'.cell? ⟨w.heap.size, 6, none⟩ = some (.int .i64 e.a) ∧ w'.cell? ⟨w.heap.size, 7, none⟩ = some (.int .i64 e.b))) (by kernel_rfl) ?_ (fun hHeld => ?_)
    · (try dsimp only)
      (go_split_ands; refine ⟨?_, ?_, ?_, ?_, ?_, ?_, ?_, ?_⟩ <;> first | (simp [go_sem]; done) | exact cell_below hb' (by assumption))
    refine tkY 0 hHeld (by rfl) (by kernel_rfl) (by kernel_rfl) (by kernel_rfl) (by rfl) (by intro w hSw; (try dsimp only at hSw); go_simp; try with_reducible rfl) ?_
    (try simp only [Act.put, List.setIfInBounds_toArray, List.set_cons_zero, List.set_cons_succ])
    refine tkY 1 hHeld (by rfl) (by kernel_rfl) (by kernel_rfl) (by kernel_rfl) (by rfl) (by intro w hSw; (try dsimp only at hSw); go_simp; try with_reducible rfl) ?_
    (try simp only [Act.put, List.setIfInBounds_toArray, List.set_cons_zero, List.set_cons_succ])
    refine wpAnyH_ready (rs := [2, 4]) (by kernel_rfl) (by simp) ?_
    refine AllReadyH.cons (o := ?o45) ?ho45 (fun K hK => ?step45) (AllReadyH.cons (o := ?o46) ?ho46 (fun K hK => ?step46) AllReadyH.nil)
    case ho45 => (simp only [List.getElem?_toArray, List.getElem?_cons_succ, List.getElem?_cons_zero]; rfl)
    case ho46 => (simp only [List.getElem?_toArray, List.getElem?_cons_succ, List.getElem?_cons_zero]; rfl)
    case step45 =>
      go_simp
      refine hK.out _ _ ?hS47 (fun hHeld' => ?rest47)
      case hS47 => ((try dsimp only); (go_split_ands; refine ⟨?_, ?_, ?_, ?_, ?_, ?_, ?_, ?_⟩ <;> first | (simp [go_sem]; done) | exact cell_below hb' (by assumption)))
      clear hK K
      (try simp only [Act.put, List.setIfInBounds_toArray, List.set_cons_zero, List.set_cons_succ])
      clear hHeld
      have hHeld := hHeld'
      clear hHeld'
      refine wpAnyH_ready (rs := [3, 4]) (by kernel_rfl) (by simp) ?_
      refine AllReadyH.cons (o := ?o48) ?ho48 (fun K hK => ?step48) (AllReadyH.cons (o := ?o49) ?ho49 (fun K hK => ?step49) AllReadyH.nil)
      case ho48 => (simp only [List.getElem?_toArray, List.getElem?_cons_succ, List.getElem?_cons_zero]; rfl)
      case ho49 => (simp only [List.getElem?_toArray, List.getElem?_cons_succ, List.getElem?_cons_zero]; rfl)
      case step48 =>
        go_simp
        refine hK.out _ _ ?hS50 (fun hHeld' => ?rest50)
        case hS50 => ((try dsimp only); (go_split_ands; refine ⟨?_, ?_, ?_, ?_, ?_, ?_, ?_, ?_⟩ <;> first | (simp [go_sem]; done) | exact cell_below hb' (by assumption)))
        clear hK K
        (try simp only [Act.put, List.setIfInBounds_toArray, List.set_cons_zero, List.set_cons_succ])
        clear hHeld
        have hHeld := hHeld'
        clear hHeld'
        refine wpAnyH_ready (rs := [4]) (by kernel_rfl) (by simp) ?_
        refine AllReadyH.cons (o := ?o51) ?ho51 (fun K hK => ?step51) AllReadyH.nil
        case ho51 => (simp only [List.getElem?_toArray, List.getElem?_cons_succ, List.getElem?_cons_zero]; rfl)
        go_simp
        (go_at_call 155; refine (l2Ariths_any _).mono ?_; rintro e' w' ⟨rfl, rfl⟩)
        (try go_wp2_with fail)
        refine hK.out _ _ ?hS52 (fun hHeld' => ?rest52)
        case hS52 => ((try dsimp only); (go_split_ands; refine ⟨?_, ?_, ?_, ?_, ?_, ?_, ?_, ?_⟩ <;> first | (simp [go_sem]; done) | exact cell_below hb' (by assumption)))
        clear hK K
        (try simp only [Act.put, List.setIfInBounds_toArray, List.set_cons_zero, List.set_cons_succ])
        clear hHeld
        have hHeld := hHeld'
        clear hHeld'
        refine wpAnyH_ready (rs := [5]) (by kernel_rfl) (by simp) ?_
        refine AllReadyH.cons (o := ?o53) ?ho53 (fun K hK => ?step53) AllReadyH.nil
        case ho53 => (simp only [List.getElem?_toArray, List.getElem?_cons_succ, List.getElem?_cons_zero]; rfl)
        go_simp
        (go_at_call 141; refine (hIs.out _ _ ?_).mono ?_; (first | exact ar_new _ _ _ (by simp) | exact ar_old _ _ _ _ (by simp)); rintro e' w' ⟨rfl, rfl⟩)
        (try go_wp2_with fail)
        refine hK.out _ _ ?hS54 (fun hHeld' => ?rest54)
        case hS54 => ((try dsimp only); (go_split_ands; refine ⟨?_, ?_, ?_, ?_, ?_, ?_, ?_, ?_⟩ <;> first | (simp [go_sem]; done) | exact cell_below hb' (by assumption)))
        clear hK K
        (try simp only [Act.put, List.setIfInBounds_toArray, List.set_cons_zero, List.set_cons_succ])
        clear hHeld
        have hHeld := hHeld'
        clear hHeld'
        refine tkY 6 hHeld (by rfl) (by kernel_rfl) (by kernel_rfl) (by kernel_rfl) (by rfl) (by intro w hSw; (try dsimp only at hSw); go_simp; try with_reducible rfl) ?_
        (try simp only [Act.put, List.setIfInBounds_toArray, List.set_cons_zero, List.set_cons_succ])
        refine tkY 7 hHeld (by rfl) (by kernel_rfl) (by kernel_rfl) (by kernel_rfl) (by rfl) (by intro w hSw; (try dsimp only at hSw); go_simp; try with_reducible rfl) ?_
        refine tkN 8 hHeld (by rfl) (by kernel_rfl) (by kernel_rfl) (by kernel_rfl) (by rfl) ?_
        refine tkN 9 hHeld (by rfl) (by kernel_rfl) (by kernel_rfl) (by kernel_rfl) (by rfl) ?_
        refine tkN 10 hHeld (by rfl) (by kernel_rfl) (by kernel_rfl) (by kernel_rfl) (by rfl) ?_
        (try simp only [Act.put, List.setIfInBounds_toArray, List.set_cons_zero, List.set_cons_succ])
        refine tkY 11 hHeld (by rfl) (by kernel_rfl) (by kernel_rfl) (by kernel_rfl) (by rfl) (by intro w hSw; (try dsimp only at hSw); go_simp; try with_reducible rfl) ?_
        (try simp only [Act.put, List.setIfInBounds_toArray, List.set_cons_zero, List.set_cons_succ])
        refine tkY 12 hHeld (by rfl) (by kernel_rfl) (by kernel_rfl) (by kernel_rfl) (by rfl) (by intro w hSw; (try dsimp only at hSw); go_simp; try with_reducible rfl) ?_
        refine tkN 13 hHeld (by rfl) (by kernel_rfl) (by kernel_rfl) (by kernel_rfl) (by rfl) ?_
        refine tkN 14 hHeld (by rfl) (by kernel_rfl) (by kernel_rfl) (by kernel_rfl) (by rfl) ?_
        refine tkN 15 hHeld (by rfl) (by kernel_rfl) (by kernel_rfl) (by kernel_rfl) (by rfl) ?_
        (try simp only [Act.put, List.setIfInBounds_toArray, List.set_cons_zero, List.set_cons_succ])
        refine tkN 16 hHeld (by rfl) (by kernel_rfl) (by kernel_rfl) (by kernel_rfl) (by rfl) ?_
        (try simp only [Act.put, List.setIfInBounds_toArray, List.set_cons_zero, List.set_cons_succ])
        refine tkY 17 hHeld (by rfl) (by kernel_rfl) (by kernel_rfl) (by kernel_rfl) (by rfl) (by intro w hSw; (try dsimp only at hSw); go_simp; try with_reducible rfl) ?_
        (try simp only [Act.put, List.setIfInBounds_toArray, List.set_cons_zero, List.set_cons_succ])
        refine tkY 18 hHeld (by rfl) (by kernel_rfl) (by kernel_rfl) (by kernel_rfl) (by rfl) (by intro w hSw; (try dsimp only at hSw); go_simp; try with_reducible rfl) ?_
        refine tkN 19 hHeld (by rfl) (by kernel_rfl) (by kernel_rfl) (by kernel_rfl) (by rfl) ?_
        refine tkN 20 hHeld (by rfl) (by kernel_rfl) (by kernel_rfl) (by kernel_rfl) (by rfl) ?_
        refine tkN 21 hHeld (by rfl) (by kernel_rfl) (by kernel_rfl) (by kernel_rfl) (by rfl) ?_
        (try simp only [Act.put, List.setIfInBounds_toArray, List.set_cons_zero, List.set_cons_succ])
        refine tkN 22 hHeld (by rfl) (by kernel_rfl) (by kernel_rfl) (by kernel_rfl) (by rfl) ?_
        refine tkN 23 hHeld (by rfl) (by kernel_rfl) (by kernel_rfl) (by kernel_rfl) (by rfl) ?_
        (try simp only [Act.put, List.setIfInBounds_toArray, List.set_cons_zero, List.set_cons_succ])
        refine tkY 24 hHeld (by rfl) (by kernel_rfl) (by kernel_rfl) (by kernel_rfl) (by rfl) (by intro w hSw; (try dsimp only at hSw); go_simp; try with_reducible rfl) ?_
        (try simp only [Act.put, List.setIfInBounds_toArray, List.set_cons_zero, List.set_cons_succ])
        refine tkY 25 hHeld (by rfl) (by kernel_rfl) (by kernel_rfl) (by kernel_rfl) (by rfl) (by intro w hSw; (try dsimp only at hSw); go_simp; try with_reducible rfl) ?_
        refine tkN 26 hHeld (by rfl) (by kernel_rfl) (by kernel_rfl) (by kernel_rfl) (by rfl) ?_
        refine tkN 27 hHeld (by rfl) (by kernel_rfl) (by kernel_rfl) (by kernel_rfl) (by rfl) ?_
        refine tkN 28 hHeld (by rfl) (by kernel_rfl) (by kernel_rfl) (by kernel_rfl) (by rfl) ?_
        (try simp only [Act.put, List.setIfInBounds_toArray, List.set_cons_zero, List.set_cons_succ])
        refine tkY 29 hHeld (by rfl) (by kernel_rfl) (by kernel_rfl) (by kernel_rfl) (by rfl) (by intro w hSw; (try dsimp only at hSw); go_simp; try with_reducible rfl) ?_
        (try simp only [Act.put, List.setIfInBounds_toArray, List.set_cons_zero, List.set_cons_succ])
        refine tkY 30 hHeld (by rfl) (by kernel_rfl) (by kernel_rfl) (by kernel_rfl) (by rfl) (by intro w hSw; (try dsimp only at hSw); go_simp; try with_reducible rfl) ?_
        refine tkN 31 hHeld (by rfl) (by kernel_rfl) (by kernel_rfl) (by kernel_rfl) (by rfl) ?_
        refine tkN 32 hHeld (by rfl) (by kernel_rfl) (by kernel_rfl) (by kernel_rfl) (by rfl) ?_
        refine tkN 33 hHeld (by rfl) (by kernel_rfl) (by kernel_rfl) (by kernel_rfl) (by rfl) ?_
        (try simp only [Act.put, List.setIfInBounds_toArray, List.set_cons_zero, List.set_cons_succ])
        refine tkY 34 hHeld (by rfl) (by kernel_rfl) (by kernel_rfl) (by kernel_rfl) (by rfl) (by intro w hSw; (try dsimp only at hSw); go_simp; try with_reducible rfl) ?_
        (try simp only [Act.put, List.setIfInBounds_toArray, List.set_cons_zero, List.set_cons_succ])
        refine wpAnyH_done (by kernel_rfl) ?_ _
        refine NoPanic.normal ?_
        go_wp2
        go_ret
        exact ⟨rfl, B3 _ _ _⟩
      case step49 =>
        go_simp
        (go_at_call 155; refine (l2Ariths_any _).mono ?_; rintro e' w' ⟨rfl, rfl⟩)
        (try go_wp2_with fail)
        refine hK.out _ _ ?hS55 (fun hHeld' => ?rest55)
        case hS55 => ((try dsimp only); (go_split_ands; refine ⟨?_, ?_, ?_, ?_, ?_, ?_, ?_, ?_⟩ <;> first | (simp [go_sem]; done) | exact cell_below hb' (by assumption)))
        clear hK K
        (try simp only [Act.put, List.setIfInBounds_toArray, List.set_cons_zero, List.set_cons_succ])
        clear hHeld
        have hHeld := hHeld'
        clear hHeld'
        refine wpAnyH_ready (rs := [3]) (by kernel_rfl) (by simp) ?_
        refine AllReadyH.cons (o := ?o56) ?ho56 (fun K hK => ?step56) AllReadyH.nil
        case ho56 => (simp only [List.getElem?_toArray, List.getElem?_cons_succ, List.getElem?_cons_zero]; rfl)
        go_simp
        refine hK.out _ _ ?hS57 (fun hHeld' => ?rest57)
        case hS57 => ((try dsimp only); (go_split_ands; refine ⟨?_, ?_, ?_, ?_, ?_, ?_, ?_, ?_⟩ <;> first | (simp [go_sem]; done) | exact cell_below hb' (by assumption)))
        clear hK K
        (try simp only [Act.put, List.setIfInBounds_toArray, List.set_cons_zero, List.set_cons_succ])
        clear hHeld
        have hHeld := hHeld'
        clear hHeld'
        refine wpAnyH_ready (rs := [5]) (by kernel_rfl) (by simp) ?_
        refine AllReadyH.cons (o := ?o58) ?ho58 (fun K hK => ?step58) AllReadyH.nil
        case ho58 => (simp only [List.getElem?_toArray, List.getElem?_cons_succ, List.getElem?_cons_zero]; rfl)
        go_simp
        (go_at_call 141; refine (hIs.out _ _ ?_).mono ?_; (first | exact ar_new _ _ _ (by simp) | exact ar_old _ _ _ _ (by simp)); rintro e' w' ⟨rfl, rfl⟩)
        (try go_wp2_with fail)
        refine hK.out _ _ ?hS59 (fun hHeld' => ?rest59)
        case hS59 => ((try dsimp only); (go_split_ands; refine ⟨?_, ?_, ?_, ?_, ?_, ?_, ?_, ?_⟩ <;> first | (simp [go_sem]; done) | exact cell_below hb' (by assumption)))
        clear hK K
        (try simp only [Act.put, List.setIfInBounds_toArray, List.set_cons_zero, List.set_cons_succ])
        clear hHeld
        have hHeld := hHeld'
        clear hHeld'
        refine tkY 6 hHeld (by rfl) (by kernel_rfl) (by kernel_rfl) (by kernel_rfl) (by rfl) (by intro w hSw; (try dsimp only at hSw); go_simp; try with_reducible rfl) ?_
        (try simp only [Act.put, List.setIfInBounds_toArray, List.set_cons_zero, List.set_cons_succ])
        refine tkY 7 hHeld (by rfl) (by kernel_rfl) (by kernel_rfl) (by kernel_rfl) (by rfl) (by intro w hSw; (try dsimp only at hSw); go_simp; try with_reducible rfl) ?_
        refine tkN 8 hHeld (by rfl) (by kernel_rfl) (by kernel_rfl) (by kernel_rfl) (by rfl) ?_
        refine tkN 9 hHeld (by rfl) (by kernel_rfl) (by kernel_rfl) (by kernel_rfl) (by rfl) ?_
        refine tkN 10 hHeld (by rfl) (by kernel_rfl) (by kernel_rfl) (by kernel_rfl) (by rfl) ?_
        (try simp only [Act.put, List.setIfInBounds_toArray, List.set_cons_zero, List.set_cons_succ])
        refine tkY 11 hHeld (by rfl) (by kernel_rfl) (by kernel_rfl) (by kernel_rfl) (by rfl) (by intro w hSw; (try dsimp only at hSw); go_simp; try with_reducible rfl) ?_
        (try simp only [Act.put, List.setIfInBounds_toArray, List.set_cons_zero, List.set_cons_succ])
        refine tkY 12 hHeld (by rfl) (by kernel_rfl) (by kernel_rfl) (by kernel_rfl) (by rfl) (by intro w hSw; (try dsimp only at hSw); go_simp; try with_reducible rfl) ?_
        refine tkN 13 hHeld (by rfl) (by kernel_rfl) (by kernel_rfl) (by kernel_rfl) (by rfl) ?_
        refine tkN 14 hHeld (by rfl) (by kernel_rfl) (by kernel_rfl) (by kernel_rfl) (by rfl) ?_
        refine tkN 15 hHeld (by rfl) (by kernel_rfl) (by kernel_rfl) (by kernel_rfl) (by rfl) ?_
        (try simp only [Act.put, List.setIfInBounds_toArray, List.set_cons_zero, List.set_cons_succ])
        refine tkN 16 hHeld (by rfl) (by kernel_rfl) (by kernel_rfl) (by kernel_rfl) (by rfl) ?_
        (try simp only [Act.put, List.setIfInBounds_toArray, List.set_cons_zero, List.set_cons_succ])
        refine tkY 17 hHeld (by rfl) (by kernel_rfl) (by kernel_rfl) (by kernel_rfl) (by rfl) (by intro w hSw; (try dsimp only at hSw); go_simp; try with_reducible rfl) ?_
        (try simp only [Act.put, List.setIfInBounds_toArray, List.set_cons_zero, List.set_cons_succ])
        refine tkY 18 hHeld (by rfl) (by kernel_rfl) (by kernel_rfl) (by kernel_rfl) (by rfl) (by intro w hSw; (try dsimp only at hSw); go_simp; try with_reducible rfl) ?_
        refine tkN 19 hHeld (by rfl) (by kernel_rfl) (by kernel_rfl) (by kernel_rfl) (by rfl) ?_
        refine tkN 20 hHeld (by rfl) (by kernel_rfl) (by kernel_rfl) (by kernel_rfl) (by rfl) ?_
        refine tkN 21 hHeld (by rfl) (by kernel_rfl) (by kernel_rfl) (by kernel_rfl) (by rfl) ?_
        (try simp only [Act.put, List.setIfInBounds_toArray, List.set_cons_zero, List.set_cons_succ])
        refine tkN 22 hHeld (by rfl) (by kernel_rfl) (by kernel_rfl) (by kernel_rfl) (by rfl) ?_
        refine tkN 23 hHeld (by rfl) (by kernel_rfl) (by kernel_rfl) (by kernel_rfl) (by rfl) ?_
        (try simp only [Act.put, List.setIfInBounds_toArray, List.set_cons_zero, List.set_cons_succ])
        refine tkY 24 hHeld (by rfl) (by kernel_rfl) (by kernel_rfl) (by kernel_rfl) (by rfl) (by intro w hSw; (try dsimp only at hSw); go_simp; try with_reducible rfl) ?_
        (try simp only [Act.put, List.setIfInBounds_toArray, List.set_cons_zero, List.set_cons_succ])
        refine tkY 25 hHeld (by rfl) (by kernel_rfl) (by kernel_rfl) (by kernel_rfl) (by rfl) (by intro w hSw; (try dsimp only at hSw); go_simp; try with_reducible rfl) ?_
        refine tkN 26 hHeld (by rfl) (by kernel_rfl) (by kernel_rfl) (by kernel_rfl) (by rfl) ?_
        refine tkN 27 hHeld (by rfl) (by kernel_rfl) (by kernel_rfl) (by kernel_rfl) (by rfl) ?_
        refine tkN 28 hHeld (by rfl) (by kernel_rfl) (by kernel_rfl) (by kernel_rfl) (by rfl) ?_
        (try simp only [Act.put, List.setIfInBounds_toArray, List.set_cons_zero, List.set_cons_succ])
        refine tkY 29 hHeld (by rfl) (by kernel_rfl) (by kernel_rfl) (by kernel_rfl) (by rfl) (by intro w hSw; (try dsimp only at hSw); go_simp; try with_reducible rfl) ?_
        (try simp only [Act.put, List.setIfInBounds_toArray, List.set_cons_zero, List.set_cons_succ])
        refine tkY 30 hHeld (by rfl) (by kernel_rfl) (by kernel_rfl) (by kernel_rfl) (by rfl) (by intro w hSw; (try dsimp only at hSw); go_simp; try with_reducible rfl) ?_
        refine tkN 31 hHeld (by rfl) (by kernel_rfl) (by kernel_rfl) (by kernel_rfl) (by rfl) ?_
        refine tkN 32 hHeld (by rfl) (by kernel_rfl) (by kernel_rfl) (by kernel_rfl) (by rfl) ?_
        refine tkN 33 hHeld (by rfl) (by kernel_rfl) (by kernel_rfl) (by kernel_rfl) (by rfl) ?_
        (try simp only [Act.put, List.setIfInBounds_toArray, List.set_cons_zero, List.set_cons_succ])
        refine tkY 34 hHeld (by rfl) (by kernel_rfl) (by kernel_rfl) (by kernel_rfl) (by rfl) (by intro w hSw; (try dsimp only at hSw); go_simp; try with_reducible rfl) ?_
        (try simp only [Act.put, List.setIfInBounds_toArray, List.set_cons_zero, List.set_cons_succ])
        refine wpAnyH_done (by kernel_rfl) ?_ _
        refine NoPanic.normal ?_
        go_wp2
        go_ret
        exact ⟨rfl, B3 _ _ _⟩
    case step46 =>
      go_simp
      (go_at_call 155; refine (l2Ariths_any _).mono ?_; rintro e' w' ⟨rfl, rfl⟩)
      (try go_wp2_with fail)
      refine hK.out _ _ ?hS60 (fun hHeld' => ?rest60)
      case hS60 => ((try dsimp only); (go_split_ands; refine ⟨?_, ?_, ?_, ?_, ?_, ?_, ?_, ?_⟩ <;> first | (simp [go_sem]; done) | exact cell_below hb' (by assumption)))
      clear hK K
      (try simp only [Act.put, List.setIfInBounds_toArray, List.set_cons_zero, List.set_cons_succ])
      clear hHeld
      have hHeld := hHeld'
      clear hHeld'
      refine wpAnyH_ready (rs := [2]) (by kernel_rfl) (by simp) ?_
      refine AllReadyH.cons (o := ?o61) ?ho61 (fun K hK => ?step61) AllReadyH.nil
      case ho61 => (simp only [List.getElem?_toArray, List.getElem?_cons_succ, List.getElem?_cons_zero]; rfl)
      go_simp
      refine hK.out _ _ ?hS62 (fun hHeld' => ?rest62)
      case hS62 => ((try dsimp only); (go_split_ands; refine ⟨?_, ?_, ?_, ?_, ?_, ?_, ?_, ?_⟩ <;> first | (simp [go_sem]; done) | exact cell_below hb' (by assumption)))
      clear hK K
      (try simp only [Act.put, List.setIfInBounds_toArray, List.set_cons_zero, List.set_cons_succ])
      clear hHeld
      have hHeld := hHeld'
      clear hHeld'
      refine wpAnyH_ready (rs := [3]) (by kernel_rfl) (by simp) ?_
      refine AllReadyH.cons (o := ?o63) ?ho63 (fun K hK => ?step63) AllReadyH.nil
      case ho63 => (simp only [List.getElem?_toArray, List.getElem?_cons_succ, List.getElem?_cons_zero]; rfl)
      go_simp
      refine hK.out _ _ ?hS64 (fun hHeld' => ?rest64)
      case hS64 => ((try dsimp only); (go_split_ands; refine ⟨?_, ?_, ?_, ?_, ?_, ?_, ?_, ?_⟩ <;> first | (simp [go_sem]; done) | exact cell_below hb' (by assumption)))
      clear hK K
      (try simp only [Act.put, List.setIfInBounds_toArray, List.set_cons_zero, List.set_cons_succ])
      clear hHeld
      have hHeld := hHeld'
      clear hHeld'
      refine wpAnyH_ready (rs := [5]) (by kernel_rfl) (by simp) ?_
      refine AllReadyH.cons (o := ?o65) ?ho65 (fun K hK => ?step65) AllReadyH.nil
      case ho65 => (simp only [List.getElem?_toArray, List.getElem?_cons_succ, List.getElem?_cons_zero]; rfl)
      go_simp
      (go_at_call 141; refine (hIs.out _ _ ?_).mono ?_; (first | exact ar_new _ _ _ (by simp) | exact ar_old _ _ _ _ (by simp)); rintro e' w' ⟨rfl, rfl⟩)
      (try go_wp2_with fail)
      refine hK.out _ _ ?hS66 (fun hHeld' => ?rest66)
      case hS66 => ((try dsimp only); (go_split_ands; refine ⟨?_, ?_, ?_, ?_, ?_, ?_, ?_, ?_⟩ <;> first | (simp [go_sem]; done) | exact cell_below hb' (by assumption)))
      clear hK K
      (try simp only [Act.put, List.setIfInBounds_toArray, List.set_cons_zero, List.set_cons_succ])
      clear hHeld
      have hHeld := hHeld'
      clear hHeld'
      refine tkY 6 hHeld (by rfl) (by kernel_rfl) (by kernel_rfl) (by kernel_rfl) (by rfl) (by intro w hSw; (try dsimp only at hSw); go_simp; try with_reducible rfl) ?_
      (try simp only [Act.put, List.setIfInBounds_toArray, List.set_cons_zero, List.set_cons_succ])
      refine tkY 7 hHeld (by rfl) (by kernel_rfl) (by kernel_rfl) (by kernel_rfl) (by rfl) (by intro w hSw; (try dsimp only at hSw); go_simp; try with_reducible rfl) ?_
      refine tkN 8 hHeld (by rfl) (by kernel_rfl) (by kernel_rfl) (by kernel_rfl) (by rfl) ?_
      refine tkN 9 hHeld (by rfl) (by kernel_rfl) (by kernel_rfl) (by kernel_rfl) (by rfl) ?_
      refine tkN 10 hHeld (by rfl) (by kernel_rfl) (by kernel_rfl) (by kernel_rfl) (by rfl) ?_
      (try simp only [Act.put, List.setIfInBounds_toArray, List.set_cons_zero, List.set_cons_succ])
      refine tkY 11 hHeld (by rfl) (by kernel_rfl) (by kernel_rfl) (by kernel_rfl) (by rfl) (by intro w hSw; (try dsimp only at hSw); go_simp; try with_reducible rfl) ?_
      (try simp only [Act.put, List.setIfInBounds_toArray, List.set_cons_zero, List.set_cons_succ])
      refine tkY 12 hHeld (by rfl) (by kernel_rfl) (by kernel_rfl) (by kernel_rfl) (by rfl) (by intro w hSw; (try dsimp only at hSw); go_simp; try with_reducible rfl) ?_
      refine tkN 13 hHeld (by rfl) (by kernel_rfl) (by kernel_rfl) (by kernel_rfl) (by rfl) ?_
      refine tkN 14 hHeld (by rfl) (by kernel_rfl) (by kernel_rfl) (by kernel_rfl) (by rfl) ?_
      refine tkN 15 hHeld (by rfl) (by kernel_rfl) (by kernel_rfl) (by kernel_rfl) (by rfl) ?_
      (try simp only [Act.put, List.setIfInBounds_toArray, List.set_cons_zero, List.set_cons_succ])
      refine tkN 16 hHeld (by rfl) (by kernel_rfl) (by kernel_rfl) (by kernel_rfl) (by rfl) ?_
      (try simp only [Act.put, List.setIfInBounds_toArray, List.set_cons_zero, List.set_cons_succ])
      refine tkY 17 hHeld (by rfl) (by kernel_rfl) (by kernel_rfl) (by kernel_rfl) (by rfl) (by intro w hSw; (try dsimp only at hSw); go_simp; try with_reducible rfl) ?_
      (try simp only [Act.put, List.setIfInBounds_toArray, List.set_cons_zero, List.set_cons_succ])
      refine tkY 18 hHeld (by rfl) (by kernel_rfl) (by kernel_rfl) (by kernel_rfl) (by rfl) (by intro w hSw; (try dsimp only at hSw); go_simp; try with_reducible rfl) ?_
      refine tkN 19 hHeld (by rfl) (by kernel_rfl) (by kernel_rfl) (by kernel_rfl) (by rfl) ?_
      refine tkN 20 hHeld (by rfl) (by kernel_rfl) (by kernel_rfl) (by kernel_rfl) (by rfl) ?_
      refine tkN 21 hHeld (by rfl) (by kernel_rfl) (by kernel_rfl) (by kernel_rfl) (by rfl) ?_
      (try simp only [Act.put, List.setIfInBounds_toArray, List.set_cons_zero, List.set_cons_succ])
      refine tkN 22 hHeld (by rfl) (by kernel_rfl) (by kernel_rfl) (by kernel_rfl) (by rfl) ?_
      refine tkN 23 hHeld (by rfl) (by kernel_rfl) (by kernel_rfl) (by kernel_rfl) (by rfl) ?_
      (try simp only [Act.put, List.setIfInBounds_toArray, List.set_cons_zero, List.set_cons_succ])
      refine tkY 24 hHeld (by rfl) (by kernel_rfl) (by kernel_rfl) (by kernel_rfl) (by rfl) (by intro w hSw; (try dsimp only at hSw); go_simp; try with_reducible rfl) ?_
      (try simp only [Act.put, List.setIfInBounds_toArray, List.set_cons_zero, List.set_cons_succ])
      refine tkY 25 hHeld (by rfl) (by kernel_rfl) (by kernel_rfl) (by kernel_rfl) (by rfl) (by intro w hSw; (try dsimp only at hSw); go_simp; try with_reducible rfl) ?_
      refine tkN 26 hHeld (by rfl) (by kernel_rfl) (by kernel_rfl) (by kernel_rfl) (by rfl) ?_
      refine tkN 27 hHeld (by rfl) (by kernel_rfl) (by kernel_rfl) (by kernel_rfl) (by rfl) ?_
      refine tkN 28 hHeld (by rfl) (by kernel_rfl) (by kernel_rfl) (by kernel_rfl) (by rfl) ?_
      (try simp only [Act.put, List.setIfInBounds_toArray, List.set_cons_zero, List.set_cons_succ])
      refine tkY 29 hHeld (by rfl) (by kernel_rfl) (by kernel_rfl) (by kernel_rfl) (by rfl) (by intro w hSw; (try dsimp only at hSw); go_simp; try with_reducible rfl) ?_
      (try simp only [Act.put, List.setIfInBounds_toArray, List.set_cons_zero, List.set_cons_succ])
      refine tkY 30 hHeld (by rfl) (by kernel_rfl) (by kernel_rfl) (by kernel_rfl) (by rfl) (by intro w hSw; (try dsimp only at hSw); go_simp; try with_reducible rfl) ?_
      refine tkN 31 hHeld (by rfl) (by kernel_rfl) (by kernel_rfl) (by kernel_rfl) (by rfl) ?_
      refine tkN 32 hHeld (by rfl) (by kernel_rfl) (by kernel_rfl) (by kernel_rfl) (by rfl) ?_
      refine tkN 33 hHeld (by rfl) (by kernel_rfl) (by kernel_rfl) (by kernel_rfl) (by rfl) ?_
      (try simp only [Act.put, List.setIfInBounds_toArray, List.set_cons_zero, List.set_cons_succ])
      refine tkY 34 hHeld (by rfl) (by kernel_rfl) (by kernel_rfl) (by kernel_rfl) (by rfl) (by intro w hSw; (try dsimp only at hSw); go_simp; try with_reducible rfl) ?_
      (try simp only [Act.put, List.setIfInBounds_toArray, List.set_cons_zero, List.set_cons_succ])
      refine wpAnyH_done (by kernel_rfl) ?_ _
      refine NoPanic.normal ?_
      go_wp2
      go_ret
      exact ⟨rfl, B3 _ _ _⟩
  · go_enter Tryz.func139, Tryz.ntmps139
    go_wp2
    clear c0 c1 c2 c3 c4 c5 c6 c7 he hkl hv0
    (try clear h3); (try clear h2); clear h1
    refine wp_region_noPanic ?_
    refine wp_region_held_drew (S := (fun w' => w'.cell? ⟨w.heap.size, 0, none⟩ = some (.int .i64 2) ∧ w'.cell? ⟨w.heap.size, 1, none⟩ = some (.int .u8 e.op) ∧ w'.cell? ⟨w.heap.size, 2, none⟩ = some (.string e.var) ∧ w'.cell? ⟨w.heap.size, 3, none⟩ = some (.int .i64 e.val.kind) ∧ w'.cell? ⟨w.heap.size, 4, none⟩ = some (.int .i64 e.val.num) ∧ w'.cell? ⟨w.heap.size, 5, none⟩ = some (.string e.val.sym) ∧ w'.cell? ⟨w.heap.size, 6, none⟩ = some (.int .i64 e.a) ∧ w'.cell? ⟨w.heap.size, 7, none⟩ = some (.int .i64 e.b))) (by kernel_rfl) ?_ (fun hHeld => ?_)
    · (try dsimp only)
      (go_split_ands; refine ⟨?_, ?_, ?_, ?_, ?_, ?_, ?_, ?_⟩ <;> first | (simp [go_sem]; done) | exact cell_below hb' (by assumption))
    refine tkY 0 hHeld (by rfl) (by kernel_rfl) (by kernel_rfl) (by kernel_rfl) (by rfl) (by intro w hSw; (try dsimp only at hSw); go_simp; try with_reducible rfl) ?_
    (try simp only [Act.put, List.setIfInBounds_toArray, List.set_cons_zero, List.set_cons_succ])
    refine tkY 1 hHeld (by rfl) (by kernel_rfl) (by kernel_rfl) (by kernel_rfl) (by rfl) (by intro w hSw; (try dsimp only at hSw); go_simp; try with_reducible rfl) ?_
    (try simp only [Act.put, List.setIfInBounds_toArray, List.set_cons_zero, List.set_cons_succ])
    refine wpAnyH_ready (rs := [2, 4]) (by kernel_rfl) (by simp) ?_
    refine AllReadyH.cons (o := ?o67) ?ho67 (fun K hK => ?step67) (AllReadyH.cons (o := ?o68) ?ho68 (fun K hK => ?step68) AllReadyH.nil)
    case ho67 => (simp only [List.getElem?_toArray, List.getElem?_cons_succ, List.getElem?_cons_zero]; rfl)
    case ho68 => (simp only [List.getElem?_toArray, List.getElem?_cons_succ, List.getElem?_cons_zero]; rfl)
    case step67 =>
      go_simp
      refine hK.out _ _ ?hS69 (fun hHeld' => ?rest69)
      case hS69 => ((try dsimp only); (go_split_ands; refine ⟨?_, ?_, ?_, ?_, ?_, ?_, ?_, ?_⟩ <;> first | (simp [go_sem]; done) | exact cell_below hb' (by assumption)))
      clear hK K
      (try simp only [Act.put, List.setIfInBounds_toArray, List.set_cons_zero, List.set_cons_succ])
      clear hHeld
      have hHeld := hHeld'
      clear hHeld'
      refine wpAnyH_ready (rs := [3, 4]) (by kernel_rfl) (by simp) ?_
      refine AllReadyH.cons (o := ?o70) ?ho70 (fun K hK => ?step70) (AllReadyH.cons (o := ?o71) ?ho71 (fun K hK => ?step71) AllReadyH.nil)
      case ho70 => (simp only [List.getElem?_toArray, List.getElem?_cons_succ, List.getElem?_cons_zero]; rfl)
      case ho71 => (simp only [List.getElem?_toArray, List.getElem?_cons_succ, List.getElem?_cons_zero]; rfl)
      case step70 =>
        go_simp
        refine hK.out _ _ ?hS72 (fun hHeld' => ?rest72)
        case hS72 => ((try dsimp only); (go_split_ands; refine ⟨?_, ?_, ?_, ?_, ?_, ?_, ?_, ?_⟩ <;> first | (simp [go_sem]; done) | exact cell_below hb' (by assumption)))
        clear hK K
        (try simp only [Act.put, List.setIfInBounds_toArray, List.set_cons_zero, List.set_cons_succ])
        clear hHeld
        have hHeld := hHeld'
        clear hHeld'
        refine wpAnyH_ready (rs := [4]) (by kernel_rfl) (by simp) ?_
        refine AllReadyH.cons (o := ?o73) ?ho73 (fun K hK => ?step73) AllReadyH.nil
        case ho73 => (simp only [List.getElem?_toArray, List.getElem?_cons_succ, List.getElem?_cons_zero]; rfl)
        go_simp
        (go_at_call 155; refine (l2Ariths_any _).mono ?_; rintro e' w' ⟨rfl, rfl⟩)
        (try go_wp2_with fail)
        refine hK.out _ _ ?hS74 (fun hHeld' => ?rest74)
        case hS74 => ((try dsimp only); (go_split_ands; refine ⟨?_, ?_, ?_, ?_, ?_, ?_, ?_, ?_⟩ <;> first | (simp [go_sem]; done) | exact cell_below hb' (by assumption)))
        clear hK K
        (try simp only [Act.put, List.setIfInBounds_toArray, List.set_cons_zero, List.set_cons_succ])
        clear hHeld
        have hHeld := hHeld'
        clear hHeld'
        refine wpAnyH_ready (rs := [5]) (by kernel_rfl) (by simp) ?_
        refine AllReadyH.cons (o := ?o75) ?ho75 (fun K hK => ?step75) AllReadyH.nil
        case ho75 => (simp only [List.getElem?_toArray, List.getElem?_cons_succ, List.getElem?_cons_zero]; rfl)
        go_simp
        (go_at_call 141; refine (hIs.out _ _ ?_).mono ?_; (first | exact ar_new _ _ _ (by simp) | exact ar_old _ _ _ _ (by simp)); rintro e' w' ⟨rfl, rfl⟩)
        (try go_wp2_with fail)
        refine hK.out _ _ ?hS76 (fun hHeld' => ?rest76)
        case hS76 => ((try dsimp only); (go_split_ands; refine ⟨?_, ?_, ?_, ?_, ?_, ?_, ?_, ?_⟩ <;> first | (simp [go_sem]; done) | exact cell_below hb' (by assumption)))
        clear hK K
        (try simp only [Act.put, List.setIfInBounds_toArray, List.set_cons_zero, List.set_cons_succ])
        clear hHeld
        have hHeld := hHeld'
        clear hHeld'
        refine tkY 6 hHeld (by rfl) (by kernel_rfl) (by kernel_rfl) (by kernel_rfl) (by rfl) (by intro w hSw; (try dsimp only at hSw); go_simp; try with_reducible rfl) ?_
        (try simp only [Act.put, List.setIfInBounds_toArray, List.set_cons_zero, List.set_cons_succ])
        refine tkY 7 hHeld (by rfl) (by kernel_rfl) (by kernel_rfl) (by kernel_rfl) (by rfl) (by intro w hSw; (try dsimp only at hSw); go_simp; try with_reducible rfl) ?_
        refine tkN 8 hHeld (by rfl) (by kernel_rfl) (by kernel_rfl) (by kernel_rfl) (by rfl) ?_
        refine tkN 9 hHeld (by rfl) (by kernel_rfl) (by kernel_rfl) (by kernel_rfl) (by rfl) ?_
        refine tkN 10 hHeld (by rfl) (by kernel_rfl) (by kernel_rfl) (by kernel_rfl) (by rfl) ?_
        (try simp only [Act.put, List.setIfInBounds_toArray, List.set_cons_zero, List.set_cons_succ])
        refine tkY 11 hHeld (by rfl) (by kernel_rfl) (by kernel_rfl) (by kernel_rfl) (by rfl) (by intro w hSw; (try dsimp only at hSw); go_simp; try with_reducible rfl) ?_
        (try simp only [Act.put, List.setIfInBounds_toArray, List.set_cons_zero, List.set_cons_succ])
        refine tkY 12 hHeld (by rfl) (by kernel_rfl) (by kernel_rfl) (by kernel_rfl) (by rfl) (by intro w hSw; (try dsimp only at hSw); go_simp; try with_reducible rfl) ?_
        refine tkN 13 hHeld (by rfl) (by kernel_rfl) (by kernel_rfl) (by kernel_rfl) (by rfl) ?_
        refine tkN 14 hHeld (by rfl) (by kernel_rfl) (by kernel_rfl) (by kernel_rfl) (by rfl) ?_
        refine tkN 15 hHeld (by rfl) (by kernel_rfl) (by kernel_rfl) (by kernel_rfl) (by rfl) ?_
        (try simp only [Act.put, List.setIfInBounds_toArray, List.set_cons_zero, List.set_cons_succ])
        refine tkN 16 hHeld (by rfl) (by kernel_rfl) (by kernel_rfl) (by kernel_rfl) (by rfl) ?_
        (try simp only [Act.put, List.setIfInBounds_toArray, List.set_cons_zero, List.set_cons_succ])
        refine tkY 17 hHeld (by rfl) (by kernel_rfl) (by kernel_rfl) (by kernel_rfl) (by rfl) (by intro w hSw; (try dsimp only at hSw); go_simp; try with_reducible rfl) ?_
        (try simp only [Act.put, List.setIfInBounds_toArray, List.set_cons_zero, List.set_cons_succ])
        refine tkY 18 hHeld (by rfl) (by kernel_rfl) (by kernel_rfl) (by kernel_rfl) (by rfl) (by intro w hSw; (try dsimp only at hSw); go_simp; try with_reducible rfl) ?_
        refine tkN 19 hHeld (by rfl) (by kernel_rfl) (by kernel_rfl) (by kernel_rfl) (by rfl) ?_
        refine tkN 20 hHeld (by rfl) (by kernel_rfl) (by kernel_rfl) (by kernel_rfl) (by rfl) ?_
        refine tkN 21 hHeld (by rfl) (by kernel_rfl) (by kernel_rfl) (by kernel_rfl) (by rfl) ?_
        (try simp only [Act.put, List.setIfInBounds_toArray, List.set_cons_zero, List.set_cons_succ])
        refine tkN 22 hHeld (by rfl) (by kernel_rfl) (by kernel_rfl) (by kernel_rfl) (by rfl) ?_
        refine tkN 23 hHeld (by rfl) (by kernel_rfl) (by kernel_rfl) (by kernel_rfl) (by rfl) ?_
        (try simp only [Act.put, List.setIfInBounds_toArray, List.set_cons_zero, List.set_cons_succ])
        refine tkY 24 hHeld (by rfl) (by kernel_rfl) (by kernel_rfl) (by kernel_rfl) (by rfl) (by intro w hSw; (try dsimp only at hSw); go_simp; try with_reducible rfl) ?_
        (try simp only [Act.put, List.setIfInBounds_toArray, List.set_cons_zero, List.set_cons_succ])
        refine tkY 25 hHeld (by rfl) (by kernel_rfl) (by kernel_rfl) (by kernel_rfl) (by rfl) (by intro w hSw; (try dsimp only at hSw); go_simp; try with_reducible rfl) ?_
        refine tkN 26 hHeld (by rfl) (by kernel_rfl) (by kernel_rfl) (by kernel_rfl) (by rfl) ?_
        refine tkN 27 hHeld (by rfl) (by kernel_rfl) (by kernel_rfl) (by kernel_rfl) (by rfl) ?_
        refine tkN 28 hHeld (by rfl) (by kernel_rfl) (by kernel_rfl) (by kernel_rfl) (by rfl) ?_
        (try simp only [Act.put, List.setIfInBounds_toArray, List.set_cons_zero, List.set_cons_succ])
        refine tkY 29 hHeld (by rfl) (by kernel_rfl) (by kernel_rfl) (by kernel_rfl) (by rfl) (by intro w hSw; (try dsimp only at hSw); go_simp; try with_reducible rfl) ?_
        (try simp only [Act.put, List.setIfInBounds_toArray, List.set_cons_zero, List.set_cons_succ])
        refine tkY 30 hHeld (by rfl) (by kernel_rfl) (by kernel_rfl) (by kernel_rfl) (by rfl) (by intro w hSw; (try dsimp only at hSw); go_simp; try with_reducible rfl) ?_
        refine tkN 31 hHeld (by rfl) (by kernel_rfl) (by kernel_rfl) (by kernel_rfl) (by rfl) ?_
        refine tkN 32 hHeld (by rfl) (by kernel_rfl) (by kernel_rfl) (by kernel_rfl) (by rfl) ?_
        refine tkN 33 hHeld (by rfl) (by kernel_rfl) (by kernel_rfl) (by kernel_rfl) (by rfl) ?_
        (try simp only [Act.put, List.setIfInBounds_toArray, List.set_cons_zero, List.set_cons_succ])
        refine tkY 34 hHeld (by rfl) (by kernel_rfl) (by kernel_rfl) (by kernel_rfl) (by rfl) (by intro w hSw; (try dsimp only at hSw); go_simp; try with_reducible rfl) ?_
        (try simp only [Act.put, List.setIfInBounds_toArray, List.set_cons_zero, List.set_cons_succ])
        refine wpAnyH_done (by kernel_rfl) ?_ _
        refine NoPanic.normal ?_
        go_wp2
        go_ret
        exact ⟨rfl, B3 _ _ _⟩
      case step71 =>
        go_simp
        (go_at_call 155; refine (l2Ariths_any _).mono ?_; rintro e' w' ⟨rfl, rfl⟩)
        (try go_wp2_with fail)
        refine hK.out _ _ ?hS77 (fun hHeld' => ?rest77)
        case hS77 => ((try dsimp only); (go_split_ands; refine ⟨?_, ?_, ?_, ?_, ?_, ?_, ?_, ?_⟩ <;> first | (simp [go_sem]; done) | exact cell_below hb' (by assumption)))
        clear hK K
        (try simp only [Act.put, List.setIfInBounds_toArray, List.set_cons_zero, List.set_cons_succ])
        clear hHeld
        have hHeld := hHeld'
        clear hHeld'
        refine wpAnyH_ready (rs := [3]) (by kernel_rfl) (by simp) ?_
        refine AllReadyH.cons (o := ?o78) ?ho78 (fun K hK => ?step78) AllReadyH.nil
        case ho78 => (simp only [List.getElem?_toArray, List.getElem?_cons_succ, List.getElem?_cons_zero]; rfl)
        go_simp
        refine hK.out _ _ ?hS79 (fun hHeld' => ?rest79)
        case hS79 => ((try dsimp only); (go_split_ands; refine ⟨?_, ?_, ?_, ?_, ?_, ?_, ?_, ?_⟩ <;> first | (simp [go_sem]; done) | exact cell_below hb' (by assumption)))
        clear hK K
        (try simp only [Act.put, List.setIfInBounds_toArray, List.set_cons_zero, List.set_cons_succ])
        clear hHeld
        have hHeld := hHeld'
        clear hHeld'
        refine wpAnyH_ready (rs := [5]) (by kernel_rfl) (by simp) ?_
        refine AllReadyH.cons (o := ?o80) ?ho80 (fun K hK => ?step80) AllReadyH.nil
        case ho80 => (simp only [List.getElem?_toArray, List.getElem?_cons_succ, List.getElem?_cons_zero]; rfl)
        go_simp
        (go_at_call 141; refine (hIs.out _ _ ?_).mono ?_; (first | exact ar_new _ _ _ (by simp) | exact ar_old _ _ _ _ (by simp)); rintro e' w' ⟨rfl, rfl⟩)
        (try go_wp2_with fail)
        refine hK.out _ _ ?hS81 (fun hHeld' => ?rest81)
        case hS81 => ((try dsimp only); (go_split_ands; refine ⟨?_, ?_, ?_, ?_, ?_, ?_, ?_, ?_⟩ <;> first | (simp [go_sem]; done) | exact cell_below hb' (by assumption)))
        clear hK K
        (try simp only [Act.put, List.setIfInBounds_toArray, List.set_cons_zero, List.set_cons_succ])
        clear hHeld
        have hHeld := hHeld'
        clear hHeld'
        refine tkY 6 hHeld (by rfl) (by kernel_rfl) (by kernel_rfl) (by kernel_rfl) (by rfl) (by intro w hSw; (try dsimp only at hSw); go_simp; try with_reducible rfl) ?_
        (try simp only [Act.put, List.setIfInBounds_toArray, List.set_cons_zero, List.set_cons_succ])
        refine tkY 7 hHeld (by rfl) (by kernel_rfl) (by kernel_rfl) (by kernel_rfl) (by rfl) (by intro w hSw; (try dsimp only at hSw); go_simp; try with_reducible rfl) ?_
        refine tkN 8 hHeld (by rfl) (by kernel_rfl) (by kernel_rfl) (by kernel_rfl) (by rfl) ?_
        refine tkN 9 hHeld (by rfl) (by kernel_rfl) (by kernel_rfl) (by kernel_rfl) (by rfl) ?_
        refine tkN 10 hHeld (by rfl) (by kernel_rfl) (by kernel_rfl) (by kernel_rfl) (by rfl) ?_
        (try simp only [Act.put, List.setIfInBounds_toArray, List.set_cons_zero, List.set_cons_succ])
        refine tkY 11 hHeld (by rfl) (by kernel_rfl) (by kernel_rfl) (by kernel_rfl) (by rfl) (by intro w hSw; (try dsimp only at hSw); go_simp; try with_reducible rfl) ?_
        (try simp only [Act.put, List.setIfInBounds_toArray, List.set_cons_zero, List.set_cons_succ])
        refine tkY 12 hHeld (by rfl) (by kernel_rfl) (by kernel_rfl) (by kernel_rfl) (by rfl) (by intro w hSw; (try dsimp only at hSw); go_simp; try with_reducible rfl) ?_
        refine tkN 13 hHeld (by rfl) (by kernel_rfl) (by kernel_rfl) (by kernel_rfl) (by rfl) ?_
        refine tkN 14 hHeld (by rfl) (by kernel_rfl) (by kernel_rfl) (by kernel_rfl) (by rfl) ?_
        refine tkN 15 hHeld (by rfl) (by kernel_rfl) (by kernel_rfl) (by kernel_rfl) (by rfl) ?_
        (try simp only [Act.put, List.setIfInBounds_toArray, List.set_cons_zero, List.set_cons_succ])
        refine tkN 16 hHeld (by rfl) (by kernel_rfl) (by kernel_rfl) (by kernel_rfl) (by rfl) ?_
        (try simp only [Act.put, List.setIfInBounds_toArray, List.set_cons_zero, List.set_cons_succ])
        refine tkY 17 hHeld (by rfl) (by kernel_rfl) (by kernel_rfl) (by kernel_rfl) (by rfl) (by intro w hSw; (try dsimp only at hSw); go_simp; try with_reducible rfl) ?_
        (try simp only [Act.put, List.setIfInBounds_toArray, List.set_cons_zero, List.set_cons_succ])
        refine tkY 18 hHeld (by rfl) (by kernel_rfl) (by kernel_rfl) (by kernel_rfl) (by rfl) (by intro w hSw; (try dsimp only at hSw); go_simp; try with_reducible rfl) ?_
        refine tkN 19 hHeld (by rfl) (by kernel_rfl) (by kernel_rfl) (by kernel_rfl) (by rfl) ?_
        refine tkN 20 hHeld (by rfl) (by kernel_rfl) (by kernel_rfl) (by kernel_rfl) (by rfl) ?_
        refine tkN 21 hHeld (by rfl) (by kernel_rfl) (by kernel_rfl) (by kernel_rfl) (by rfl) ?_
        (try simp only [Act.put, List.setIfInBounds_toArray, List.set_cons_zero, List.set_cons_succ])
        refine tkN 22 hHeld (by rfl) (by kernel_rfl) (by kernel_rfl) (by kernel_rfl) (by rfl) ?_
        refine tkN 23 hHeld (by rfl) (by kernel_rfl) (by kernel_rfl) (by kernel_rfl) (by rfl) ?_
        (try simp only [Act.put, List.setIfInBounds_toArray, List.set_cons_zero, List.set_cons_succ])
        refine tkY 24 hHeld (by rfl) (by kernel_rfl) (by kernel_rfl) (by kernel_rfl) (by rfl) (by intro w hSw; (try dsimp only at hSw); go_simp; try with_reducible rfl) ?_
        (try simp only [Act.put, List.setIfInBounds_toArray, List.set_cons_zero, List.set_cons_succ])
        refine tkY 25 hHeld (by rfl) (by kernel_rfl) (by kernel_rfl) (by kernel_rfl) (by rfl) (by intro w hSw; (try dsimp only at hSw); go_simp; try with_reducible rfl) ?_
        refine tkN 26 hHeld (by rfl) (by kernel_rfl) (by kernel_rfl) (by kernel_rfl) (by rfl) ?_
        refine tkN 27 hHeld (by rfl) (by kernel_rfl) (by kernel_rfl) (by kernel_rfl) (by rfl) ?_
        refine tkN 28 hHeld (by rfl) (by kernel_rfl) (by kernel_rfl) (by kernel_rfl) (by rfl) ?_
        (try simp only [Act.put, List.setIfInBounds_toArray, List.set_cons_zero, List.set_cons_succ])
        refine tkY 29 hHeld (by rfl) (by kernel_rfl) (by kernel_rfl) (by kernel_rfl) (by rfl) (by intro w hSw; (try dsimp only at hSw); go_simp; try with_reducible rfl) ?_
        (try simp only [Act.put, List.setIfInBounds_toArray, List.set_cons_zero, List.set_cons_succ])
        refine tkY 30 hHeld (by rfl) (by kernel_rfl) (by kernel_rfl) (by kernel_rfl) (by rfl) (by intro w hSw; (try dsimp only at hSw); go_simp; try with_reducible rfl) ?_
        refine tkN 31 hHeld (by rfl) (by kernel_rfl) (by kernel_rfl) (by kernel_rfl) (by rfl) ?_
        refine tkN 32 hHeld (by rfl) (by kernel_rfl) (by kernel_rfl) (by kernel_rfl) (by rfl) ?_
        refine tkN 33 hHeld (by rfl) (by kernel_rfl) (by kernel_rfl) (by kernel_rfl) (by rfl) ?_
        (try simp only [Act.put, List.setIfInBounds_toArray, List.set_cons_zero, List.set_cons_succ])
        refine tkY 34 hHeld (by rfl) (by kernel_rfl) (by kernel_rfl) (by kernel_rfl) (by rfl) (by intro w hSw; (try dsimp only at hSw); go_simp; try with_reducible rfl) ?_
        (try simp only [Act.put, List.setIfInBounds_toArray, List.set_cons_zero, List.set_cons_succ])
        refine wpAnyH_done (by kernel_rfl) ?_ _
        refine NoPanic.normal ?_
        go_wp2
        go_ret
        exact ⟨rfl, B3 _ _ _⟩
    case step68 =>
      go_simp
      (go_at_call 155; refine (l2Ariths_any _).mono ?_; rintro e' w' ⟨rfl, rfl⟩)
      (try go_wp2_with fail)
      refine hK.out _ _ ?hS82 (fun hHeld' => ?rest82)
      case hS82 => ((try dsimp only); (go_split_ands; refine ⟨?_, ?_, ?_, ?_, ?_, ?_, ?_, ?_⟩ <;> first | (simp [go_sem]; done) | exact cell_below hb' (by assumption)))
      clear hK K
      (try simp only [Act.put, List.setIfInBounds_toArray, List.set_cons_zero, List.set_cons_succ])
      clear hHeld
      have hHeld := hHeld'
      clear hHeld'
      refine wpAnyH_ready (rs := [2]) (by kernel_rfl) (by simp) ?_
      refine AllReadyH.cons (o := ?o83) ?ho83 (fun K hK => ?step83) AllReadyH.nil
      case ho83 => (simp only [List.getElem?_toArray, List.getElem?_cons_succ, List.getElem?_cons_zero]; rfl)
      go_simp
      refine hK.out _ _ ?hS84 (fun hHeld' => ?rest84)
      case hS84 => ((try dsimp only); (go_split_ands; refine ⟨?_, ?_, ?_, ?_, ?_, ?_, ?_, ?_⟩ <;> first | (simp [go_sem]; done) | exact cell_below hb' (by assumption)))
      clear hK K
      (try simp only [Act.put, List.setIfInBounds_toArray, List.set_cons_zero, List.set_cons_succ])
      clear hHeld
      have hHeld := hHeld'
      clear hHeld'
      refine wpAnyH_ready (rs := [3]) (by kernel_rfl) (by simp) ?_
      refine AllReadyH.cons (o := ?o85) ?ho85 (fun K hK => ?step85) AllReadyH.nil
      case ho85 => (simp only [List.getElem?_toArray, List.getElem?_cons_succ, List.getElem?_cons_zero]; rfl)
      go_simp
      refine hK.out _ _ ?hS86 (fun hHeld' => ?rest86)
      case hS86 => ((try dsimp only); (go_split_ands; refine ⟨?_, ?_, ?_, ?_, ?_, ?_, ?_, ?_⟩ <;> first | (simp [go_sem]; done) | exact cell_below hb' (by assumption)))
      clear hK K
      (try simp only [Act.put, List.setIfInBounds_toArray, List.set_cons_zero, List.set_cons_succ])
      clear hHeld
      have hHeld := hHeld'
      clear hHeld'
      refine wpAnyH_ready (rs := [5]) (by kernel_rfl) (by simp) ?_
      refine AllReadyH.cons (o := ?o87) ?ho87 (fun K hK => ?step87) AllReadyH.nil
      case ho87 => (simp only [List.getElem?_toArray, List.getElem?_cons_succ, List.getElem?_cons_zero]; rfl)
      go_simp
      (go_at_call 141; refine (hIs.out _ _ ?_).mono ?_; (first | exact ar_new _ _ _ (by simp) | exact ar_old _ _ _ _ (by simp)); rintro e' w' ⟨rfl, rfl⟩)
      (try go_wp2_with fail)
      refine hK.out _ _ ?hS88 (fun hHeld' => ?rest88)
      case hS88 => ((try dsimp only); (go_split_ands; refine ⟨?_, ?_, ?_, ?_, ?_, ?_, ?_, ?_⟩ <;> first | (simp [go_sem]; done) | exact cell_below hb' (by assumption)))
      clear hK K
      (try simp only [Act.put, List.setIfInBounds_toArray, List.set_cons_zero, List.set_cons_succ])
      clear hHeld
      have hHeld := hHeld'
      clear hHeld'
      refine tkY 6 hHeld (by rfl) (by kernel_rfl) (by kernel_rfl) (by kernel_rfl) (by rfl) (by intro w hSw; (try dsimp only at hSw); go_simp; try with_reducible rfl) ?_
      (try simp only [Act.put, List.setIfInBounds_toArray, List.set_cons_zero, List.set_cons_succ])
      refine tkY 7 hHeld (by rfl) (by kernel_rfl) (by kernel_rfl) (by kernel_rfl) (by rfl) (by intro w hSw; (try dsimp only at hSw); go_simp; try with_reducible rfl) ?_
      refine tkN 8 hHeld (by rfl) (by kernel_rfl) (by kernel_rfl) (by kernel_rfl) (by rfl) ?_
      refine tkN 9 hHeld (by rfl) (by kernel_rfl) (by kernel_rfl) (by kernel_rfl) (by rfl) ?_
      refine tkN 10 hHeld (by rfl) (by kernel_rfl) (by kernel_rfl) (by kernel_rfl) (by rfl) ?_
      (try simp only [Act.put, List.setIfInBounds_toArray, List.set_cons_zero, List.set_cons_succ])
      refine tkY 11 hHeld (by rfl) (by kernel_rfl) (by kernel_rfl) (by kernel_rfl) (by rfl) (by intro w hSw; (try dsimp only at hSw); go_simp; try with_reducible rfl) ?_
      (try simp only [Act.put, List.setIfInBounds_toArray, List.set_cons_zero, List.set_cons_succ])
      refine tkY 12 hHeld (by rfl) (by kernel_rfl) (by kernel_rfl) (by kernel_rfl) (by rfl) (by intro w hSw; (try dsimp only at hSw); go_simp; try with_reducible rfl) ?_
      refine tkN 13 hHeld (by rfl) (by kernel_rfl) (by kernel_rfl) (by kernel_rfl) (by rfl) ?_
      refine tkN 14 hHeld (by rfl) (by kernel_rfl) (by kernel_rfl) (by kernel_rfl) (by rfl) ?_
      refine tkN 15 hHeld (by rfl) (by kernel_rfl) (by kernel_rfl) (by kernel_rfl) (by rfl) ?_
      (try simp only [Act.put, List.setIfInBounds_toArray, List.set_cons_zero, List.set_cons_succ])
      refine tkN 16 hHeld (by rfl) (by kernel_rfl) (by kernel_rfl) (by kernel_rfl) (by rfl) ?_
      (try simp only [Act.put, List.setIfInBounds_toArray, List.set_cons_zero, List.set_cons_succ])
      refine tkY 17 hHeld (by rfl) (by kernel_rfl) (by kernel_rfl) (by kernel_rfl) (by rfl) (by intro w hSw; (try dsimp only at hSw); go_simp; try with_reducible rfl) ?_
      (try simp only [Act.put, List.setIfInBounds_toArray, List.set_cons_zero, List.set_cons_succ])
      refine tkY 18 hHeld (by rfl) (by kernel_rfl) (by kernel_rfl) (by kernel_rfl) (by rfl) (by intro w hSw; (try dsimp only at hSw); go_simp; try with_reducible rfl) ?_
      refine tkN 19 hHeld (by rfl) (by kernel_rfl) (by kernel_rfl) (by kernel_rfl) (by rfl) ?_
      refine tkN 20 hHeld (by rfl) (by kernel_rfl) (by kernel_rfl) (by kernel_rfl) (by rfl) ?_
      refine tkN 21 hHeld (by rfl) (by kernel_rfl) (by kernel_rfl) (by kernel_rfl) (by rfl) ?_
      (try simp only [Act.put, List.setIfInBounds_toArray, List.set_cons_zero, List.set_cons_succ])
      refine tkN 22 hHeld (by rfl) (by kernel_rfl) (by kernel_rfl) (by kernel_rfl) (by rfl) ?_
      refine tkN 23 hHeld (by rfl) (by kernel_rfl) (by kernel_rfl) (by kernel_rfl) (by rfl) ?_
      (try simp only [Act.put, List.setIfInBounds_toArray, List.set_cons_zero, List.set_cons_succ])
      refine tkY 24 hHeld (by rfl) (by kernel_rfl) (by kernel_rfl) (by kernel_rfl) (by rfl) (by intro w hSw; (try dsimp only at hSw); go_simp; try with_reducible rfl) ?_
      (try simp only [Act.put, List.setIfInBounds_toArray, List.set_cons_zero, List.set_cons_succ])
      refine tkY 25 hHeld (by rfl) (by kernel_rfl) (by kernel_rfl) (by kernel_rfl) (by rfl) (by intro w hSw; (try dsimp only at hSw); go_simp; try with_reducible rfl) ?_
      refine tkN 26 hHeld (by rfl) (by kernel_rfl) (by kernel_rfl) (by kernel_rfl) (by rfl) ?_
      refine tkN 27 hHeld (by rfl) (by kernel_rfl) (by kernel_rfl) (by kernel_rfl) (by rfl) ?_
      refine tkN 28 hHeld (by rfl) (by kernel_rfl) (by kernel_rfl) (by kernel_rfl) (by rfl) ?_
      (try simp only [Act.put, List.setIfInBounds_toArray, List.set_cons_zero, List.set_cons_succ])
      refine tkY 29 hHeld (by rfl) (by kernel_rfl) (by kernel_rfl) (by kernel_rfl) (by rfl) (by intro w hSw; (try dsimp only at hSw); go_simp; try with_reducible rfl) ?_
      (try simp only [Act.put, List.setIfInBounds_toArray, List.set_cons_zero, List.set_cons_succ])
      refine tkY 30 hHeld (by rfl) (by kernel_rfl) (by kernel_rfl) (by kernel_rfl) (by rfl) (by intro w hSw; (try dsimp only at hSw); go_simp; try with_reducible rfl) ?_
      refine tkN 31 hHeld (by rfl) (by kernel_rfl) (by kernel_rfl) (by kernel_rfl) (by rfl) ?_
      refine tkN 32 hHeld (by rfl) (by kernel_rfl) (by kernel_rfl) (by kernel_rfl) (by rfl) ?_
      refine tkN 33 hHeld (by rfl) (by kernel_rfl) (by kernel_rfl) (by kernel_rfl) (by rfl) ?_
      (try simp only [Act.put, List.setIfInBounds_toArray, List.set_cons_zero, List.set_cons_succ])
      refine tkY 34 hHeld (by rfl) (by kernel_rfl) (by kernel_rfl) (by kernel_rfl) (by rfl) (by intro w hSw; (try dsimp only at hSw); go_simp; try with_reducible rfl) ?_
      (try simp only [Act.put, List.setIfInBounds_toArray, List.set_cons_zero, List.set_cons_succ])
      refine wpAnyH_done (by kernel_rfl) ?_ _
      refine NoPanic.normal ?_
      go_wp2
      go_ret
      exact ⟨rfl, B3 _ _ _⟩
end Go.Proofs.YtognpkdgphebeaaGreat
