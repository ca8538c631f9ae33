/-
  OUR OWN TEXT. Sc4o3, Sc4o5, one behind the other.
-/
import Derived.Test.YtognpkdgphebeaaGreatOd
namespace Go.Proofs.YtognpkdgphebeaaGreat
open Go.RowKit
attribute [local go_sem ↓] Go.wp_at_zero Go.wp_at_succ

theorem hidSC {p : Prop} (h : p) : Hid p := h

set_option maxHeartbeats 3200000 in
theorem goodExpr_o4 (a : Option Addr) (c : Nat) (es : List Ex) (S : List Sp) (e : Ex) (w : World) {q : Option Nat} (hv : ExsAt q w a es) (hl : es.length ≤ 60) (he : es[S.length]? = some e) (ho0 : 0 ≤ e.op) (ho1 : e.op < 256) (k2 : e.kind = 2) (har : isAr e.op = true) (hva : e.var.toList.isEmpty = true) (hz : zeroV e.val = true) (hbi0 : ¬ e.b = (S.length : Int) - 1) :
    Calls Tryz.prog 139 #[.slice a es.length c, .int .i64 (S.length : Int)] w fun e' w' => e' = .returned (.bool false) ∧ Below w.heap.size w w' := by
  have hkl : S.length < es.length := (List.getElem?_eq_some_iff.1 he).1
  have B1 : ∀ o, Below w.heap.size w (w.alloc o) := fun o => (Below.refl _ _).alloc (Nat.le_refl _) _
  have B3 : ∀ o o1 o2, Below w.heap.size w (((w.alloc o).drew.alloc o1).alloc o2) := fun o o1 o2 => ((B1 o).drew.alloc (by simp) _).alloc (by simp; omega) _
  have hv0 := hv
  obtain ⟨b, o, rfl, hq, c0, c1, c2, c3, c4, c5, c6, c7⟩ := hv.get he
  have hcv := run_conv1 e.op
  have hIs := hidSC (l2Is_ar e.op ho0 ho1)
  rw [har] at hIs
  have hZ := hidSC (fun w => l2Zero_any e.val w)
  rw [hz] at hZ
  have hbi : (e.b != (S.length : Int) - 1) = true := by simp [hbi0]
  have hw : IntKind.i64.wrap ((S.length : Int) - 1) = (S.length : Int) - 1 := by rw [IntKind.wrap_i64]; omega

  rw [k2] at c0
  clear hq hv
  have h1 : (e.op == 0) = false := by
    cases h : (e.op == 0)
    · rfl
    · have h0 : e.op = 0 := by simpa using h
      rw [h0] at har
      exact absurd har (by decide)
  go_enter Tryz.func139, Tryz.ntmps139
  go_wp2
  clear c0 c1 c2 c3 c4 c5 c6 c7 he hv0
  (try clear h3); (try clear h2); clear h1
  refine wp_region_noPanic ?_
  refine wp_region_held_drew (S := (fun w' => w'.cell? ⟨w.heap.size, 0, none⟩ = some (.int .i64 2) ∧ w'.cell? ⟨w.heap.size, 1, none⟩ = some (.int .u8 e.op) ∧ w'.cell? ⟨w.heap.size, 2, none⟩ = some (.string e.var) ∧ w'.cell? ⟨w.heap.size, 3, none⟩ = some (.int .i64 e.val.kind) ∧ w'.cell? ⟨w.heap.size, 4, none⟩ = some (.int .i64 e.val.num) ∧ w'.cell? ⟨w.heap.size, 5, none⟩ = some (.string e.val.sym) ∧ w'.cell? ⟨w.heap.size, 6, none⟩ = some (.int .i64 e.a) ∧ w'.cell? ⟨w.heap.size, 7, none⟩ = some (.int .i64 e.b))) (by kernel_rfl) ?_ (fun hHeld => ?_)
  · (try dsimp only)
    (go_split_ands; refine ⟨?_, ?_, ?_, ?_, ?_, ?_, ?_, ?_⟩ <;> first | (simp [go_sem]; done) | exact cell_below hb' (by assumption))
  refine tkY 0 hHeld (by rfl) (by kernel_rfl) (by kernel_rfl) (by kernel_rfl) (by rfl) (by intro w hSw; (try dsimp only at hSw); go_simp; try with_reducible rfl) ?_
  (try simp only [Act.put, List.setIfInBounds_toArray, List.set_cons_zero, List.set_cons_succ])
  refine tkY 1 hHeld (by rfl) (by kernel_rfl) (by kernel_rfl) (by kernel_rfl) (by rfl) (by intro w hSw; (try dsimp only at hSw); go_simp; try with_reducible rfl) ?_
  (try simp only [Act.put, List.setIfInBounds_toArray, List.set_cons_zero, List.set_cons_succ])
  refine wpAnyH_ready (rs := [2, 4]) (by kernel_rfl) (by simp) ?_
  refine AllReadyH.cons (o := ?o139) ?ho139 (fun K hK => ?step139) (AllReadyH.cons (o := ?o140) ?ho140 (fun K hK => ?step140) AllReadyH.nil)
  case ho139 => (simp only [List.getElem?_toArray, List.getElem?_cons_succ, List.getElem?_cons_zero]; rfl)
  case ho140 => (simp only [List.getElem?_toArray, List.getElem?_cons_succ, List.getElem?_cons_zero]; rfl)
  case step139 =>
    go_simp
    refine hK.out _ _ ?hS141 (fun hHeld' => ?rest141)
    case hS141 => ((try dsimp only); (go_split_ands; refine ⟨?_, ?_, ?_, ?_, ?_, ?_, ?_, ?_⟩ <;> first | (simp [go_sem]; done) | exact cell_below hb' (by assumption)))
    clear hK K
    (try simp only [Act.put, List.setIfInBounds_toArray, List.set_cons_zero, List.set_cons_succ])
    clear hHeld
    have hHeld := hHeld'
    clear hHeld'
    refine wpAnyH_ready (rs := [3, 4]) (by kernel_rfl) (by simp) ?_
    refine AllReadyH.cons (o := ?o142) ?ho142 (fun K hK => ?step142) (AllReadyH.cons (o := ?o143) ?ho143 (fun K hK => ?step143) AllReadyH.nil)
    case ho142 => (simp only [List.getElem?_toArray, List.getElem?_cons_succ, List.getElem?_cons_zero]; rfl)
    case ho143 => (simp only [List.getElem?_toArray, List.getElem?_cons_succ, List.getElem?_cons_zero]; rfl)
    case step142 =>
      go_simp
      refine hK.out _ _ ?hS144 (fun hHeld' => ?rest144)
      case hS144 => ((try dsimp only); (go_split_ands; refine ⟨?_, ?_, ?_, ?_, ?_, ?_, ?_, ?_⟩ <;> first | (simp [go_sem]; done) | exact cell_below hb' (by assumption)))
      clear hK K
      (try simp only [Act.put, List.setIfInBounds_toArray, List.set_cons_zero, List.set_cons_succ])
      clear hHeld
      have hHeld := hHeld'
      clear hHeld'
      refine wpAnyH_ready (rs := [4]) (by kernel_rfl) (by simp) ?_
      refine AllReadyH.cons (o := ?o145) ?ho145 (fun K hK => ?step145) AllReadyH.nil
      case ho145 => (simp only [List.getElem?_toArray, List.getElem?_cons_succ, List.getElem?_cons_zero]; rfl)
      go_simp
      (go_at_call 155; refine (l2Ariths_any _).mono ?_; rintro e' w' ⟨rfl, rfl⟩)
      (try go_wp2_with fail)
      refine hK.out _ _ ?hS146 (fun hHeld' => ?rest146)
      case hS146 => ((try dsimp only); (go_split_ands; refine ⟨?_, ?_, ?_, ?_, ?_, ?_, ?_, ?_⟩ <;> first | (simp [go_sem]; done) | exact cell_below hb' (by assumption)))
      clear hK K
      (try simp only [Act.put, List.setIfInBounds_toArray, List.set_cons_zero, List.set_cons_succ])
      clear hHeld
      have hHeld := hHeld'
      clear hHeld'
      refine wpAnyH_ready (rs := [5]) (by kernel_rfl) (by simp) ?_
      refine AllReadyH.cons (o := ?o147) ?ho147 (fun K hK => ?step147) AllReadyH.nil
      case ho147 => (simp only [List.getElem?_toArray, List.getElem?_cons_succ, List.getElem?_cons_zero]; rfl)
      go_simp
      (go_at_call 141; refine (hIs.out _ _ ?_).mono ?_; (first | exact ar_new _ _ _ (by simp) | exact ar_old _ _ _ _ (by simp)); rintro e' w' ⟨rfl, rfl⟩)
      (try go_wp2_with fail)
      refine hK.out _ _ ?hS148 (fun hHeld' => ?rest148)
      case hS148 => ((try dsimp only); (go_split_ands; refine ⟨?_, ?_, ?_, ?_, ?_, ?_, ?_, ?_⟩ <;> first | (simp [go_sem]; done) | exact cell_below hb' (by assumption)))
      clear hK K
      (try simp only [Act.put, List.setIfInBounds_toArray, List.set_cons_zero, List.set_cons_succ])
      clear hHeld
      have hHeld := hHeld'
      clear hHeld'
      refine tkY 6 hHeld (by rfl) (by kernel_rfl) (by kernel_rfl) (by kernel_rfl) (by rfl) (by intro w hSw; (try dsimp only at hSw); go_simp; try with_reducible rfl) ?_
      (try simp only [Act.put, List.setIfInBounds_toArray, List.set_cons_zero, List.set_cons_succ])
      refine tkY 7 hHeld (by rfl) (by kernel_rfl) (by kernel_rfl) (by kernel_rfl) (by rfl) (by intro w hSw; (try dsimp only at hSw); go_simp; try with_reducible rfl) ?_
      (try simp only [Act.put, List.setIfInBounds_toArray, List.set_cons_zero, List.set_cons_succ])
      refine tkY 8 hHeld (by rfl) (by kernel_rfl) (by kernel_rfl) (by kernel_rfl) (by rfl) (by intro w hSw; (try dsimp only at hSw); go_simp; try with_reducible rfl) ?_
      (try simp only [Act.put, List.setIfInBounds_toArray, List.set_cons_zero, List.set_cons_succ])
      refine tkY 9 hHeld (by rfl) (by kernel_rfl) (by kernel_rfl) (by kernel_rfl) (by rfl) (by intro w hSw; (try dsimp only at hSw); go_simp; try with_reducible rfl) ?_
      (try simp only [Act.put, List.setIfInBounds_toArray, List.set_cons_zero, List.set_cons_succ])
      refine tkY 10 hHeld (by rfl) (by kernel_rfl) (by kernel_rfl) (by kernel_rfl) (by rfl) (by intro w hSw; (try dsimp only at hSw); go_simp; try with_reducible rfl) ?_
      (try simp only [Act.put, List.setIfInBounds_toArray, List.set_cons_zero, List.set_cons_succ])
      refine tkY 11 hHeld (by rfl) (by kernel_rfl) (by kernel_rfl) (by kernel_rfl) (by rfl) (by intro w hSw; (try dsimp only at hSw); go_simp; try with_reducible rfl) ?_
      (try simp only [Act.put, List.setIfInBounds_toArray, List.set_cons_zero, List.set_cons_succ])
      refine tkY 12 hHeld (by rfl) (by kernel_rfl) (by kernel_rfl) (by kernel_rfl) (by rfl) (by intro w hSw; (try dsimp only at hSw); go_simp; try with_reducible rfl) ?_
      (try simp only [Act.put, List.setIfInBounds_toArray, List.set_cons_zero, List.set_cons_succ])
      refine tkY 13 hHeld (by rfl) (by kernel_rfl) (by kernel_rfl) (by kernel_rfl) (by rfl) (by intro w hSw; (try dsimp only at hSw); go_simp; try with_reducible rfl) ?_
      (try simp only [Act.put, List.setIfInBounds_toArray, List.set_cons_zero, List.set_cons_succ])
      refine tkY 14 hHeld (by rfl) (by kernel_rfl) (by kernel_rfl) (by kernel_rfl) (by rfl) (by intro w hSw; (try dsimp only at hSw); go_simp; try with_reducible rfl) ?_
      (try simp only [Act.put, List.setIfInBounds_toArray, List.set_cons_zero, List.set_cons_succ])
      refine wpAnyH_ready (rs := [15]) (by kernel_rfl) (by simp) ?_
      refine AllReadyH.cons (o := ?o149) ?ho149 (fun K hK => ?step149) AllReadyH.nil
      case ho149 => (simp only [List.getElem?_toArray, List.getElem?_cons_succ, List.getElem?_cons_zero]; rfl)
      go_simp
      (go_at_call 154; refine (hZ.out _).mono ?_; rintro e' w' ⟨rfl, hb'⟩)
      (try go_wp2_with fail)
      refine hK.out _ _ ?hS150 (fun hHeld' => ?rest150)
      case hS150 => ((try dsimp only); (go_split_ands; refine ⟨?_, ?_, ?_, ?_, ?_, ?_, ?_, ?_⟩ <;> first | (simp [go_sem]; done) | exact cell_below hb' (by assumption)))
      clear hK K
      (try simp only [Act.put, List.setIfInBounds_toArray, List.set_cons_zero, List.set_cons_succ])
      clear hHeld
      have hHeld := hHeld'
      clear hHeld'
      refine tkY 16 hHeld (by rfl) (by kernel_rfl) (by kernel_rfl) (by kernel_rfl) (by rfl) (by intro w hSw; (try dsimp only at hSw); go_simp; try with_reducible rfl) ?_
      (try simp only [Act.put, List.setIfInBounds_toArray, List.set_cons_zero, List.set_cons_succ])
      refine tkY 17 hHeld (by rfl) (by kernel_rfl) (by kernel_rfl) (by kernel_rfl) (by rfl) (by intro w hSw; (try dsimp only at hSw); go_simp; try with_reducible rfl) ?_
      (try simp only [Act.put, List.setIfInBounds_toArray, List.set_cons_zero, List.set_cons_succ])
      refine tkY 18 hHeld (by rfl) (by kernel_rfl) (by kernel_rfl) (by kernel_rfl) (by rfl) (by intro w hSw; (try dsimp only at hSw); go_simp; try with_reducible rfl) ?_
      (try simp only [Act.put, List.setIfInBounds_toArray, List.set_cons_zero, List.set_cons_succ])
      refine tkY 19 hHeld (by rfl) (by kernel_rfl) (by kernel_rfl) (by kernel_rfl) (by rfl) (by intro w hSw; (try dsimp only at hSw); go_simp; try with_reducible rfl) ?_
      (try simp only [Act.put, List.setIfInBounds_toArray, List.set_cons_zero, List.set_cons_succ])
      refine tkY 20 hHeld (by rfl) (by kernel_rfl) (by kernel_rfl) (by kernel_rfl) (by rfl) (by intro w hSw; (try dsimp only at hSw); go_simp; try with_reducible rfl) ?_
      (try simp only [Act.put, List.setIfInBounds_toArray, List.set_cons_zero, List.set_cons_succ])
      refine tkY 21 hHeld (by rfl) (by kernel_rfl) (by kernel_rfl) (by kernel_rfl) (by rfl) (by intro w hSw; (try dsimp only at hSw); go_simp; try with_reducible rfl) ?_
      (try simp only [Act.put, List.setIfInBounds_toArray, List.set_cons_zero, List.set_cons_succ])
      refine tkY 22 hHeld (by rfl) (by kernel_rfl) (by kernel_rfl) (by kernel_rfl) (by rfl) (by intro w hSw; (try dsimp only at hSw); go_simp; try with_reducible rfl) ?_
      (try simp only [Act.put, List.setIfInBounds_toArray, List.set_cons_zero, List.set_cons_succ])
      refine tkY 23 hHeld (by rfl) (by kernel_rfl) (by kernel_rfl) (by kernel_rfl) (by rfl) (by intro w hSw; (try dsimp only at hSw); go_simp; try with_reducible rfl) ?_
      (try simp only [Act.put, List.setIfInBounds_toArray, List.set_cons_zero, List.set_cons_succ])
      refine tkY 24 hHeld (by rfl) (by kernel_rfl) (by kernel_rfl) (by kernel_rfl) (by rfl) (by intro w hSw; (try dsimp only at hSw); go_simp; try with_reducible rfl) ?_
      (try simp only [Act.put, List.setIfInBounds_toArray, List.set_cons_zero, List.set_cons_succ])
      refine tkY 25 hHeld (by rfl) (by kernel_rfl) (by kernel_rfl) (by kernel_rfl) (by rfl) (by intro w hSw; (try dsimp only at hSw); go_simp; try with_reducible rfl) ?_
      refine tkN 26 hHeld (by rfl) (by kernel_rfl) (by kernel_rfl) (by kernel_rfl) (by rfl) ?_
      refine tkN 27 hHeld (by rfl) (by kernel_rfl) (by kernel_rfl) (by kernel_rfl) (by rfl) ?_
      refine tkN 28 hHeld (by rfl) (by kernel_rfl) (by kernel_rfl) (by kernel_rfl) (by rfl) ?_
      (try simp only [Act.put, List.setIfInBounds_toArray, List.set_cons_zero, List.set_cons_succ])
      refine tkY 29 hHeld (by rfl) (by kernel_rfl) (by kernel_rfl) (by kernel_rfl) (by rfl) (by intro w hSw; (try dsimp only at hSw); go_simp; try with_reducible rfl) ?_
      (try simp only [Act.put, List.setIfInBounds_toArray, List.set_cons_zero, List.set_cons_succ])
      refine tkY 30 hHeld (by rfl) (by kernel_rfl) (by kernel_rfl) (by kernel_rfl) (by rfl) (by intro w hSw; (try dsimp only at hSw); go_simp; try with_reducible rfl) ?_
      refine tkN 31 hHeld (by rfl) (by kernel_rfl) (by kernel_rfl) (by kernel_rfl) (by rfl) ?_
      refine tkN 32 hHeld (by rfl) (by kernel_rfl) (by kernel_rfl) (by kernel_rfl) (by rfl) ?_
      refine tkN 33 hHeld (by rfl) (by kernel_rfl) (by kernel_rfl) (by kernel_rfl) (by rfl) ?_
      (try simp only [Act.put, List.setIfInBounds_toArray, List.set_cons_zero, List.set_cons_succ])
      refine tkY 34 hHeld (by rfl) (by kernel_rfl) (by kernel_rfl) (by kernel_rfl) (by rfl) (by intro w hSw; (try dsimp only at hSw); go_simp; try with_reducible rfl) ?_
      (try simp only [Act.put, List.setIfInBounds_toArray, List.set_cons_zero, List.set_cons_succ])
      refine wpAnyH_done (by kernel_rfl) ?_ _
      refine NoPanic.normal ?_
      go_wp2
      go_ret
      exact ⟨rfl, (B3 _ _ _).trans (hb'.mono (by simp; omega))⟩
    case step143 =>
      go_simp
      (go_at_call 155; refine (l2Ariths_any _).mono ?_; rintro e' w' ⟨rfl, rfl⟩)
      (try go_wp2_with fail)
      refine hK.out _ _ ?hS151 (fun hHeld' => ?rest151)
      case hS151 => ((try dsimp only); (go_split_ands; refine ⟨?_, ?_, ?_, ?_, ?_, ?_, ?_, ?_⟩ <;> first | (simp [go_sem]; done) | exact cell_below hb' (by assumption)))
      clear hK K
      (try simp only [Act.put, List.setIfInBounds_toArray, List.set_cons_zero, List.set_cons_succ])
      clear hHeld
      have hHeld := hHeld'
      clear hHeld'
      refine wpAnyH_ready (rs := [3]) (by kernel_rfl) (by simp) ?_
      refine AllReadyH.cons (o := ?o152) ?ho152 (fun K hK => ?step152) AllReadyH.nil
      case ho152 => (simp only [List.getElem?_toArray, List.getElem?_cons_succ, List.getElem?_cons_zero]; rfl)
      go_simp
      refine hK.out _ _ ?hS153 (fun hHeld' => ?rest153)
      case hS153 => ((try dsimp only); (go_split_ands; refine ⟨?_, ?_, ?_, ?_, ?_, ?_, ?_, ?_⟩ <;> first | (simp [go_sem]; done) | exact cell_below hb' (by assumption)))
      clear hK K
      (try simp only [Act.put, List.setIfInBounds_toArray, List.set_cons_zero, List.set_cons_succ])
      clear hHeld
      have hHeld := hHeld'
      clear hHeld'
      refine wpAnyH_ready (rs := [5]) (by kernel_rfl) (by simp) ?_
      refine AllReadyH.cons (o := ?o154) ?ho154 (fun K hK => ?step154) AllReadyH.nil
      case ho154 => (simp only [List.getElem?_toArray, List.getElem?_cons_succ, List.getElem?_cons_zero]; rfl)
      go_simp
      (go_at_call 141; refine (hIs.out _ _ ?_).mono ?_; (first | exact ar_new _ _ _ (by simp) | exact ar_old _ _ _ _ (by simp)); rintro e' w' ⟨rfl, rfl⟩)
      (try go_wp2_with fail)
      refine hK.out _ _ ?hS155 (fun hHeld' => ?rest155)
      case hS155 => ((try dsimp only); (go_split_ands; refine ⟨?_, ?_, ?_, ?_, ?_, ?_, ?_, ?_⟩ <;> first | (simp [go_sem]; done) | exact cell_below hb' (by assumption)))
      clear hK K
      (try simp only [Act.put, List.setIfInBounds_toArray, List.set_cons_zero, List.set_cons_succ])
      clear hHeld
      have hHeld := hHeld'
      clear hHeld'
      refine tkY 6 hHeld (by rfl) (by kernel_rfl) (by kernel_rfl) (by kernel_rfl) (by rfl) (by intro w hSw; (try dsimp only at hSw); go_simp; try with_reducible rfl) ?_
      (try simp only [Act.put, List.setIfInBounds_toArray, List.set_cons_zero, List.set_cons_succ])
      refine tkY 7 hHeld (by rfl) (by kernel_rfl) (by kernel_rfl) (by kernel_rfl) (by rfl) (by intro w hSw; (try dsimp only at hSw); go_simp; try with_reducible rfl) ?_
      (try simp only [Act.put, List.setIfInBounds_toArray, List.set_cons_zero, List.set_cons_succ])
      refine tkY 8 hHeld (by rfl) (by kernel_rfl) (by kernel_rfl) (by kernel_rfl) (by rfl) (by intro w hSw; (try dsimp only at hSw); go_simp; try with_reducible rfl) ?_
      (try simp only [Act.put, List.setIfInBounds_toArray, List.set_cons_zero, List.set_cons_succ])
      refine tkY 9 hHeld (by rfl) (by kernel_rfl) (by kernel_rfl) (by kernel_rfl) (by rfl) (by intro w hSw; (try dsimp only at hSw); go_simp; try with_reducible rfl) ?_
      (try simp only [Act.put, List.setIfInBounds_toArray, List.set_cons_zero, List.set_cons_succ])
      refine tkY 10 hHeld (by rfl) (by kernel_rfl) (by kernel_rfl) (by kernel_rfl) (by rfl) (by intro w hSw; (try dsimp only at hSw); go_simp; try with_reducible rfl) ?_
      (try simp only [Act.put, List.setIfInBounds_toArray, List.set_cons_zero, List.set_cons_succ])
      refine tkY 11 hHeld (by rfl) (by kernel_rfl) (by kernel_rfl) (by kernel_rfl) (by rfl) (by intro w hSw; (try dsimp only at hSw); go_simp; try with_reducible rfl) ?_
      (try simp only [Act.put, List.setIfInBounds_toArray, List.set_cons_zero, List.set_cons_succ])
      refine tkY 12 hHeld (by rfl) (by kernel_rfl) (by kernel_rfl) (by kernel_rfl) (by rfl) (by intro w hSw; (try dsimp only at hSw); go_simp; try with_reducible rfl) ?_
      (try simp only [Act.put, List.setIfInBounds_toArray, List.set_cons_zero, List.set_cons_succ])
      refine tkY 13 hHeld (by rfl) (by kernel_rfl) (by kernel_rfl) (by kernel_rfl) (by rfl) (by intro w hSw; (try dsimp only at hSw); go_simp; try with_reducible rfl) ?_
      (try simp only [Act.put, List.setIfInBounds_toArray, List.set_cons_zero, List.set_cons_succ])
      refine tkY 14 hHeld (by rfl) (by kernel_rfl) (by kernel_rfl) (by kernel_rfl) (by rfl) (by intro w hSw; (try dsimp only at hSw); go_simp; try with_reducible rfl) ?_
      (try simp only [Act.put, List.setIfInBounds_toArray, List.set_cons_zero, List.set_cons_succ])
      refine wpAnyH_ready (rs := [15]) (by kernel_rfl) (by simp) ?_
      refine AllReadyH.cons (o := ?o156) ?ho156 (fun K hK => ?step156) AllReadyH.nil
      case ho156 => (simp only [List.getElem?_toArray, List.getElem?_cons_succ, List.getElem?_cons_zero]; rfl)
      go_simp
      (go_at_call 154; refine (hZ.out _).mono ?_; rintro e' w' ⟨rfl, hb'⟩)
      (try go_wp2_with fail)
      refine hK.out _ _ ?hS157 (fun hHeld' => ?rest157)
      case hS157 => ((try dsimp only); (go_split_ands; refine ⟨?_, ?_, ?_, ?_, ?_, ?_, ?_, ?_⟩ <;> first | (simp [go_sem]; done) | exact cell_below hb' (by assumption)))
      clear hK K
      (try simp only [Act.put, List.setIfInBounds_toArray, List.set_cons_zero, List.set_cons_succ])
      clear hHeld
      have hHeld := hHeld'
      clear hHeld'
      refine tkY 16 hHeld (by rfl) (by kernel_rfl) (by kernel_rfl) (by kernel_rfl) (by rfl) (by intro w hSw; (try dsimp only at hSw); go_simp; try with_reducible rfl) ?_
      (try simp only [Act.put, List.setIfInBounds_toArray, List.set_cons_zero, List.set_cons_succ])
      refine tkY 17 hHeld (by rfl) (by kernel_rfl) (by kernel_rfl) (by kernel_rfl) (by rfl) (by intro w hSw; (try dsimp only at hSw); go_simp; try with_reducible rfl) ?_
      (try simp only [Act.put, List.setIfInBounds_toArray, List.set_cons_zero, List.set_cons_succ])
      refine tkY 18 hHeld (by rfl) (by kernel_rfl) (by kernel_rfl) (by kernel_rfl) (by rfl) (by intro w hSw; (try dsimp only at hSw); go_simp; try with_reducible rfl) ?_
      (try simp only [Act.put, List.setIfInBounds_toArray, List.set_cons_zero, List.set_cons_succ])
      refine tkY 19 hHeld (by rfl) (by kernel_rfl) (by kernel_rfl) (by kernel_rfl) (by rfl) (by intro w hSw; (try dsimp only at hSw); go_simp; try with_reducible rfl) ?_
      (try simp only [Act.put, List.setIfInBounds_toArray, List.set_cons_zero, List.set_cons_succ])
      refine tkY 20 hHeld (by rfl) (by kernel_rfl) (by kernel_rfl) (by kernel_rfl) (by rfl) (by intro w hSw; (try dsimp only at hSw); go_simp; try with_reducible rfl) ?_
      (try simp only [Act.put, List.setIfInBounds_toArray, List.set_cons_zero, List.set_cons_succ])
      refine tkY 21 hHeld (by rfl) (by kernel_rfl) (by kernel_rfl) (by kernel_rfl) (by rfl) (by intro w hSw; (try dsimp only at hSw); go_simp; try with_reducible rfl) ?_
      (try simp only [Act.put, List.setIfInBounds_toArray, List.set_cons_zero, List.set_cons_succ])
      refine tkY 22 hHeld (by rfl) (by kernel_rfl) (by kernel_rfl) (by kernel_rfl) (by rfl) (by intro w hSw; (try dsimp only at hSw); go_simp; try with_reducible rfl) ?_
      (try simp only [Act.put, List.setIfInBounds_toArray, List.set_cons_zero, List.set_cons_succ])
      refine tkY 23 hHeld (by rfl) (by kernel_rfl) (by kernel_rfl) (by kernel_rfl) (by rfl) (by intro w hSw; (try dsimp only at hSw); go_simp; try with_reducible rfl) ?_
      (try simp only [Act.put, List.setIfInBounds_toArray, List.set_cons_zero, List.set_cons_succ])
      refine tkY 24 hHeld (by rfl) (by kernel_rfl) (by kernel_rfl) (by kernel_rfl) (by rfl) (by intro w hSw; (try dsimp only at hSw); go_simp; try with_reducible rfl) ?_
      (try simp only [Act.put, List.setIfInBounds_toArray, List.set_cons_zero, List.set_cons_succ])
      refine tkY 25 hHeld (by rfl) (by kernel_rfl) (by kernel_rfl) (by kernel_rfl) (by rfl) (by intro w hSw; (try dsimp only at hSw); go_simp; try with_reducible rfl) ?_
      refine tkN 26 hHeld (by rfl) (by kernel_rfl) (by kernel_rfl) (by kernel_rfl) (by rfl) ?_
      refine tkN 27 hHeld (by rfl) (by kernel_rfl) (by kernel_rfl) (by kernel_rfl) (by rfl) ?_
      refine tkN 28 hHeld (by rfl) (by kernel_rfl) (by kernel_rfl) (by kernel_rfl) (by rfl) ?_
      (try simp only [Act.put, List.setIfInBounds_toArray, List.set_cons_zero, List.set_cons_succ])
      refine tkY 29 hHeld (by rfl) (by kernel_rfl) (by kernel_rfl) (by kernel_rfl) (by rfl) (by intro w hSw; (try dsimp only at hSw); go_simp; try with_reducible rfl) ?_
      (try simp only [Act.put, List.setIfInBounds_toArray, List.set_cons_zero, List.set_cons_succ])
      refine tkY 30 hHeld (by rfl) (by kernel_rfl) (by kernel_rfl) (by kernel_rfl) (by rfl) (by intro w hSw; (try dsimp only at hSw); go_simp; try with_reducible rfl) ?_
      refine tkN 31 hHeld (by rfl) (by kernel_rfl) (by kernel_rfl) (by kernel_rfl) (by rfl) ?_
      refine tkN 32 hHeld (by rfl) (by kernel_rfl) (by kernel_rfl) (by kernel_rfl) (by rfl) ?_
      refine tkN 33 hHeld (by rfl) (by kernel_rfl) (by kernel_rfl) (by kernel_rfl) (by rfl) ?_
      (try simp only [Act.put, List.setIfInBounds_toArray, List.set_cons_zero, List.set_cons_succ])
      refine tkY 34 hHeld (by rfl) (by kernel_rfl) (by kernel_rfl) (by kernel_rfl) (by rfl) (by intro w hSw; (try dsimp only at hSw); go_simp; try with_reducible rfl) ?_
      (try simp only [Act.put, List.setIfInBounds_toArray, List.set_cons_zero, List.set_cons_succ])
      refine wpAnyH_done (by kernel_rfl) ?_ _
      refine NoPanic.normal ?_
      go_wp2
      go_ret
      exact ⟨rfl, (B3 _ _ _).trans (hb'.mono (by simp; omega))⟩
  case step140 =>
    go_simp
    (go_at_call 155; refine (l2Ariths_any _).mono ?_; rintro e' w' ⟨rfl, rfl⟩)
    (try go_wp2_with fail)
    refine hK.out _ _ ?hS158 (fun hHeld' => ?rest158)
    case hS158 => ((try dsimp only); (go_split_ands; refine ⟨?_, ?_, ?_, ?_, ?_, ?_, ?_, ?_⟩ <;> first | (simp [go_sem]; done) | exact cell_below hb' (by assumption)))
    clear hK K
    (try simp only [Act.put, List.setIfInBounds_toArray, List.set_cons_zero, List.set_cons_succ])
    clear hHeld
    have hHeld := hHeld'
    clear hHeld'
    refine wpAnyH_ready (rs := [2]) (by kernel_rfl) (by simp) ?_
    refine AllReadyH.cons (o := ?o159) ?ho159 (fun K hK => ?step159) AllReadyH.nil
    case ho159 => (simp only [List.getElem?_toArray, List.getElem?_cons_succ, List.getElem?_cons_zero]; rfl)
    go_simp
    refine hK.out _ _ ?hS160 (fun hHeld' => ?rest160)
    case hS160 => ((try dsimp only); (go_split_ands; refine ⟨?_, ?_, ?_, ?_, ?_, ?_, ?_, ?_⟩ <;> first | (simp [go_sem]; done) | exact cell_below hb' (by assumption)))
    clear hK K
    (try simp only [Act.put, List.setIfInBounds_toArray, List.set_cons_zero, List.set_cons_succ])
    clear hHeld
    have hHeld := hHeld'
    clear hHeld'
    refine wpAnyH_ready (rs := [3]) (by kernel_rfl) (by simp) ?_
    refine AllReadyH.cons (o := ?o161) ?ho161 (fun K hK => ?step161) AllReadyH.nil
    case ho161 => (simp only [List.getElem?_toArray, List.getElem?_cons_succ, List.getElem?_cons_zero]; rfl)
    go_simp
    refine hK.out _ _ ?hS162 (fun hHeld' => ?rest162)
    case hS162 => ((try dsimp only); (go_split_ands; refine ⟨?_, ?_, ?_, ?_, ?_, ?_, ?_, ?_⟩ <;> first | (simp [go_sem]; done) | exact cell_below hb' (by assumption)))
    clear hK K
    (try simp only [Act.put, List.setIfInBounds_toArray, List.set_cons_zero, List.set_cons_succ])
    clear hHeld
    have hHeld := hHeld'
    clear hHeld'
    refine wpAnyH_ready (rs := [5]) (by kernel_rfl) (by simp) ?_
    refine AllReadyH.cons (o := ?o163) ?ho163 (fun K hK => ?step163) AllReadyH.nil
    case ho163 => (simp only [List.getElem?_toArray, List.getElem?_cons_succ, List.getElem?_cons_zero]; rfl)
    go_simp
    (go_at_call 141; refine (hIs.out _ _ ?_).mono ?_; (first | exact ar_new _ _ _ (by simp) | exact ar_old _ _ _ _ (by simp)); rintro e' w' ⟨rfl, rfl⟩)
    (try go_wp2_with fail)
    refine hK.out _ _ ?hS164 (fun hHeld' => ?rest164)
    case hS164 => ((try dsimp only); (go_split_ands; refine ⟨?_, ?_, ?_, ?_, ?_, ?_, ?_, ?_⟩ <;> first | (simp [go_sem]; done) | exact cell_below hb' (by assumption)))
    clear hK K
    (try simp only [Act.put, List.setIfInBounds_toArray, List.set_cons_zero, List.set_cons_succ])
    clear hHeld
    have hHeld := hHeld'
    clear hHeld'
    refine tkY 6 hHeld (by rfl) (by kernel_rfl) (by kernel_rfl) (by kernel_rfl) (by rfl) (by intro w hSw; (try dsimp only at hSw); go_simp; try with_reducible rfl) ?_
    (try simp only [Act.put, List.setIfInBounds_toArray, List.set_cons_zero, List.set_cons_succ])
    refine tkY 7 hHeld (by rfl) (by kernel_rfl) (by kernel_rfl) (by kernel_rfl) (by rfl) (by intro w hSw; (try dsimp only at hSw); go_simp; try with_reducible rfl) ?_
    (try simp only [Act.put, List.setIfInBounds_toArray, List.set_cons_zero, List.set_cons_succ])
    refine tkY 8 hHeld (by rfl) (by kernel_rfl) (by kernel_rfl) (by kernel_rfl) (by rfl) (by intro w hSw; (try dsimp only at hSw); go_simp; try with_reducible rfl) ?_
    (try simp only [Act.put, List.setIfInBounds_toArray, List.set_cons_zero, List.set_cons_succ])
    refine tkY 9 hHeld (by rfl) (by kernel_rfl) (by kernel_rfl) (by kernel_rfl) (by rfl) (by intro w hSw; (try dsimp only at hSw); go_simp; try with_reducible rfl) ?_
    (try simp only [Act.put, List.setIfInBounds_toArray, List.set_cons_zero, List.set_cons_succ])
    refine tkY 10 hHeld (by rfl) (by kernel_rfl) (by kernel_rfl) (by kernel_rfl) (by rfl) (by intro w hSw; (try dsimp only at hSw); go_simp; try with_reducible rfl) ?_
    (try simp only [Act.put, List.setIfInBounds_toArray, List.set_cons_zero, List.set_cons_succ])
    refine tkY 11 hHeld (by rfl) (by kernel_rfl) (by kernel_rfl) (by kernel_rfl) (by rfl) (by intro w hSw; (try dsimp only at hSw); go_simp; try with_reducible rfl) ?_
    (try simp only [Act.put, List.setIfInBounds_toArray, List.set_cons_zero, List.set_cons_succ])
    refine tkY 12 hHeld (by rfl) (by kernel_rfl) (by kernel_rfl) (by kernel_rfl) (by rfl) (by intro w hSw; (try dsimp only at hSw); go_simp; try with_reducible rfl) ?_
    (try simp only [Act.put, List.setIfInBounds_toArray, List.set_cons_zero, List.set_cons_succ])
    refine tkY 13 hHeld (by rfl) (by kernel_rfl) (by kernel_rfl) (by kernel_rfl) (by rfl) (by intro w hSw; (try dsimp only at hSw); go_simp; try with_reducible rfl) ?_
    (try simp only [Act.put, List.setIfInBounds_toArray, List.set_cons_zero, List.set_cons_succ])
    refine tkY 14 hHeld (by rfl) (by kernel_rfl) (by kernel_rfl) (by kernel_rfl) (by rfl) (by intro w hSw; (try dsimp only at hSw); go_simp; try with_reducible rfl) ?_
    (try simp only [Act.put, List.setIfInBounds_toArray, List.set_cons_zero, List.set_cons_succ])
    refine wpAnyH_ready (rs := [15]) (by kernel_rfl) (by simp) ?_
    refine AllReadyH.cons (o := ?o165) ?ho165 (fun K hK => ?step165) AllReadyH.nil
    case ho165 => (simp only [List.getElem?_toArray, List.getElem?_cons_succ, List.getElem?_cons_zero]; rfl)
    go_simp
    (go_at_call 154; refine (hZ.out _).mono ?_; rintro e' w' ⟨rfl, hb'⟩)
    (try go_wp2_with fail)
    refine hK.out _ _ ?hS166 (fun hHeld' => ?rest166)
    case hS166 => ((try dsimp only); (go_split_ands; refine ⟨?_, ?_, ?_, ?_, ?_, ?_, ?_, ?_⟩ <;> first | (simp [go_sem]; done) | exact cell_below hb' (by assumption)))
    clear hK K
    (try simp only [Act.put, List.setIfInBounds_toArray, List.set_cons_zero, List.set_cons_succ])
    clear hHeld
    have hHeld := hHeld'
    clear hHeld'
    refine tkY 16 hHeld (by rfl) (by kernel_rfl) (by kernel_rfl) (by kernel_rfl) (by rfl) (by intro w hSw; (try dsimp only at hSw); go_simp; try with_reducible rfl) ?_
    (try simp only [Act.put, List.setIfInBounds_toArray, List.set_cons_zero, List.set_cons_succ])
    refine tkY 17 hHeld (by rfl) (by kernel_rfl) (by kernel_rfl) (by kernel_rfl) (by rfl) (by intro w hSw; (try dsimp only at hSw); go_simp; try with_reducible rfl) ?_
    (try simp only [Act.put, List.setIfInBounds_toArray, List.set_cons_zero, List.set_cons_succ])
    refine tkY 18 hHeld (by rfl) (by kernel_rfl) (by kernel_rfl) (by kernel_rfl) (by rfl) (by intro w hSw; (try dsimp only at hSw); go_simp; try with_reducible rfl) ?_
    (try simp only [Act.put, List.setIfInBounds_toArray, List.set_cons_zero, List.set_cons_succ])
    refine tkY 19 hHeld (by rfl) (by kernel_rfl) (by kernel_rfl) (by kernel_rfl) (by rfl) (by intro w hSw; (try dsimp only at hSw); go_simp; try with_reducible rfl) ?_
    (try simp only [Act.put, List.setIfInBounds_toArray, List.set_cons_zero, List.set_cons_succ])
    refine tkY 20 hHeld (by rfl) (by kernel_rfl) (by kernel_rfl) (by kernel_rfl) (by rfl) (by intro w hSw; (try dsimp only at hSw); go_simp; try with_reducible rfl) ?_
    (try simp only [Act.put, List.setIfInBounds_toArray, List.set_cons_zero, List.set_cons_succ])
    refine tkY 21 hHeld (by rfl) (by kernel_rfl) (by kernel_rfl) (by kernel_rfl) (by rfl) (by intro w hSw; (try dsimp only at hSw); go_simp; try with_reducible rfl) ?_
    (try simp only [Act.put, List.setIfInBounds_toArray, List.set_cons_zero, List.set_cons_succ])
    refine tkY 22 hHeld (by rfl) (by kernel_rfl) (by kernel_rfl) (by kernel_rfl) (by rfl) (by intro w hSw; (try dsimp only at hSw); go_simp; try with_reducible rfl) ?_
    (try simp only [Act.put, List.setIfInBounds_toArray, List.set_cons_zero, List.set_cons_succ])
    refine tkY 23 hHeld (by rfl) (by kernel_rfl) (by kernel_rfl) (by kernel_rfl) (by rfl) (by intro w hSw; (try dsimp only at hSw); go_simp; try with_reducible rfl) ?_
    (try simp only [Act.put, List.setIfInBounds_toArray, List.set_cons_zero, List.set_cons_succ])
    refine tkY 24 hHeld (by rfl) (by kernel_rfl) (by kernel_rfl) (by kernel_rfl) (by rfl) (by intro w hSw; (try dsimp only at hSw); go_simp; try with_reducible rfl) ?_
    (try simp only [Act.put, List.setIfInBounds_toArray, List.set_cons_zero, List.set_cons_succ])
    refine tkY 25 hHeld (by rfl) (by kernel_rfl) (by kernel_rfl) (by kernel_rfl) (by rfl) (by intro w hSw; (try dsimp only at hSw); go_simp; try with_reducible rfl) ?_
    refine tkN 26 hHeld (by rfl) (by kernel_rfl) (by kernel_rfl) (by kernel_rfl) (by rfl) ?_
    refine tkN 27 hHeld (by rfl) (by kernel_rfl) (by kernel_rfl) (by kernel_rfl) (by rfl) ?_
    refine tkN 28 hHeld (by rfl) (by kernel_rfl) (by kernel_rfl) (by kernel_rfl) (by rfl) ?_
    (try simp only [Act.put, List.setIfInBounds_toArray, List.set_cons_zero, List.set_cons_succ])
    refine tkY 29 hHeld (by rfl) (by kernel_rfl) (by kernel_rfl) (by kernel_rfl) (by rfl) (by intro w hSw; (try dsimp only at hSw); go_simp; try with_reducible rfl) ?_
    (try simp only [Act.put, List.setIfInBounds_toArray, List.set_cons_zero, List.set_cons_succ])
    refine tkY 30 hHeld (by rfl) (by kernel_rfl) (by kernel_rfl) (by kernel_rfl) (by rfl) (by intro w hSw; (try dsimp only at hSw); go_simp; try with_reducible rfl) ?_
    refine tkN 31 hHeld (by rfl) (by kernel_rfl) (by kernel_rfl) (by kernel_rfl) (by rfl) ?_
    refine tkN 32 hHeld (by rfl) (by kernel_rfl) (by kernel_rfl) (by kernel_rfl) (by rfl) ?_
    refine tkN 33 hHeld (by rfl) (by kernel_rfl) (by kernel_rfl) (by kernel_rfl) (by rfl) ?_
    (try simp only [Act.put, List.setIfInBounds_toArray, List.set_cons_zero, List.set_cons_succ])
    refine tkY 34 hHeld (by rfl) (by kernel_rfl) (by kernel_rfl) (by kernel_rfl) (by rfl) (by intro w hSw; (try dsimp only at hSw); go_simp; try with_reducible rfl) ?_
    (try simp only [Act.put, List.setIfInBounds_toArray, List.set_cons_zero, List.set_cons_succ])
    refine wpAnyH_done (by kernel_rfl) ?_ _
    refine NoPanic.normal ?_
    go_wp2
    go_ret
    exact ⟨rfl, (B3 _ _ _).trans (hb'.mono (by simp; omega))⟩

set_option maxHeartbeats 3200000 in
theorem goodExpr_o5 (a : Option Addr) (c : Nat) (es : List Ex) (S : List Sp) (e : Ex) (w : World) {q : Option Nat} (hv : ExsAt q w a es) (he : es[S.length]? = some e) (ho0 : 0 ≤ e.op) (ho1 : e.op < 256) (k2 : e.kind = 2) (har : isAr e.op = true) (hva : e.var.toList.isEmpty = true) (hz : zeroV e.val = true) (hbi0 : e.b = (S.length : Int) - 1) (hb0 : e.b < 0) :
    Calls Tryz.prog 139 #[.slice a es.length c, .int .i64 (S.length : Int)] w fun e' w' => e' = .returned (.bool false) ∧ Below w.heap.size w w' := by
  have hkl : S.length < es.length := (List.getElem?_eq_some_iff.1 he).1
  have B1 : ∀ o, Below w.heap.size w (w.alloc o) := fun o => (Below.refl _ _).alloc (Nat.le_refl _) _
  have B3 : ∀ o o1 o2, Below w.heap.size w (((w.alloc o).drew.alloc o1).alloc o2) := fun o o1 o2 => ((B1 o).drew.alloc (by simp) _).alloc (by simp; omega) _
  have hv0 := hv
  obtain ⟨b, o, rfl, hq, c0, c1, c2, c3, c4, c5, c6, c7⟩ := hv.get he
  have hcv := run_conv1 e.op
  have hIs := hidSC (l2Is_ar e.op ho0 ho1)
  rw [har] at hIs
  have hZ := hidSC (fun w => l2Zero_any e.val w)
  rw [hz] at hZ
  have hbi : (e.b != (S.length : Int) - 1) = false := by simp [hbi0]
  have hw : IntKind.i64.wrap ((S.length : Int) - 1) = (S.length : Int) - 1 := by rw [IntKind.wrap_i64]; omega
  have hbi1 := hidSC hbi0
  clear hbi0

  rw [k2] at c0
  clear hq hv
  have h1 : (e.op == 0) = false := by
    cases h : (e.op == 0)
    · rfl
    · have h0 : e.op = 0 := by simpa using h
      rw [h0] at har
      exact absurd har (by decide)
  go_enter Tryz.func139, Tryz.ntmps139
  go_wp2
  clear c0 c1 c2 c3 c4 c5 c6 c7 he hv0
  (try clear h3); (try clear h2); clear h1
  refine wp_region_noPanic ?_
  refine wp_region_held_drew (S := (fun w' => w'.cell? ⟨w.heap.size, 0, none⟩ = some (.int .i64 2) ∧ w'.cell? ⟨w.heap.size, 1, none⟩ = some (.int .u8 e.op) ∧ w'.cell? ⟨w.heap.size, 2, none⟩ = some (.string e.var) ∧ w'.cell? ⟨w.heap.size, 3, none⟩ = some (.int .i64 e.val.kind) ∧ w'.cell? ⟨w.heap.size, 4, none⟩ = some (.int .i64 e.val.num) ∧ w'.cell? ⟨w.heap.size, 5, none⟩ = some (.string e.val.sym) ∧ w'.cell? ⟨w.heap.size, 6, none⟩ = some (.int .i64 e.a) ∧ w'.cell? ⟨w.heap.size, 7, none⟩ = some (.int .i64 e.b))) (by kernel_rfl) ?_ (fun hHeld => ?_)
  · (try dsimp only)
    (go_split_ands; refine ⟨?_, ?_, ?_, ?_, ?_, ?_, ?_, ?_⟩ <;> first | (simp [go_sem]; done) | exact cell_below hb' (by assumption))
  refine tkY 0 hHeld (by rfl) (by kernel_rfl) (by kernel_rfl) (by kernel_rfl) (by rfl) (by intro w hSw; (try dsimp only at hSw); go_simp; try with_reducible rfl) ?_
  (try simp only [Act.put, List.setIfInBounds_toArray, List.set_cons_zero, List.set_cons_succ])
  refine tkY 1 hHeld (by rfl) (by kernel_rfl) (by kernel_rfl) (by kernel_rfl) (by rfl) (by intro w hSw; (try dsimp only at hSw); go_simp; try with_reducible rfl) ?_
  (try simp only [Act.put, List.setIfInBounds_toArray, List.set_cons_zero, List.set_cons_succ])
  refine wpAnyH_ready (rs := [2, 4]) (by kernel_rfl) (by simp) ?_
  refine AllReadyH.cons (o := ?o167) ?ho167 (fun K hK => ?step167) (AllReadyH.cons (o := ?o168) ?ho168 (fun K hK => ?step168) AllReadyH.nil)
  case ho167 => (simp only [List.getElem?_toArray, List.getElem?_cons_succ, List.getElem?_cons_zero]; rfl)
  case ho168 => (simp only [List.getElem?_toArray, List.getElem?_cons_succ, List.getElem?_cons_zero]; rfl)
  case step167 =>
    go_simp
    refine hK.out _ _ ?hS169 (fun hHeld' => ?rest169)
    case hS169 => ((try dsimp only); (go_split_ands; refine ⟨?_, ?_, ?_, ?_, ?_, ?_, ?_, ?_⟩ <;> first | (simp [go_sem]; done) | exact cell_below hb' (by assumption)))
    clear hK K
    (try simp only [Act.put, List.setIfInBounds_toArray, List.set_cons_zero, List.set_cons_succ])
    clear hHeld
    have hHeld := hHeld'
    clear hHeld'
    refine wpAnyH_ready (rs := [3, 4]) (by kernel_rfl) (by simp) ?_
    refine AllReadyH.cons (o := ?o170) ?ho170 (fun K hK => ?step170) (AllReadyH.cons (o := ?o171) ?ho171 (fun K hK => ?step171) AllReadyH.nil)
    case ho170 => (simp only [List.getElem?_toArray, List.getElem?_cons_succ, List.getElem?_cons_zero]; rfl)
    case ho171 => (simp only [List.getElem?_toArray, List.getElem?_cons_succ, List.getElem?_cons_zero]; rfl)
    case step170 =>
      go_simp
      refine hK.out _ _ ?hS172 (fun hHeld' => ?rest172)
      case hS172 => ((try dsimp only); (go_split_ands; refine ⟨?_, ?_, ?_, ?_, ?_, ?_, ?_, ?_⟩ <;> first | (simp [go_sem]; done) | exact cell_below hb' (by assumption)))
      clear hK K
      (try simp only [Act.put, List.setIfInBounds_toArray, List.set_cons_zero, List.set_cons_succ])
      clear hHeld
      have hHeld := hHeld'
      clear hHeld'
      refine wpAnyH_ready (rs := [4]) (by kernel_rfl) (by simp) ?_
      refine AllReadyH.cons (o := ?o173) ?ho173 (fun K hK => ?step173) AllReadyH.nil
      case ho173 => (simp only [List.getElem?_toArray, List.getElem?_cons_succ, List.getElem?_cons_zero]; rfl)
      go_simp
      (go_at_call 155; refine (l2Ariths_any _).mono ?_; rintro e' w' ⟨rfl, rfl⟩)
      (try go_wp2_with fail)
      refine hK.out _ _ ?hS174 (fun hHeld' => ?rest174)
      case hS174 => ((try dsimp only); (go_split_ands; refine ⟨?_, ?_, ?_, ?_, ?_, ?_, ?_, ?_⟩ <;> first | (simp [go_sem]; done) | exact cell_below hb' (by assumption)))
      clear hK K
      (try simp only [Act.put, List.setIfInBounds_toArray, List.set_cons_zero, List.set_cons_succ])
      clear hHeld
      have hHeld := hHeld'
      clear hHeld'
      refine wpAnyH_ready (rs := [5]) (by kernel_rfl) (by simp) ?_
      refine AllReadyH.cons (o := ?o175) ?ho175 (fun K hK => ?step175) AllReadyH.nil
      case ho175 => (simp only [List.getElem?_toArray, List.getElem?_cons_succ, List.getElem?_cons_zero]; rfl)
      go_simp
      (go_at_call 141; refine (hIs.out _ _ ?_).mono ?_; (first | exact ar_new _ _ _ (by simp) | exact ar_old _ _ _ _ (by simp)); rintro e' w' ⟨rfl, rfl⟩)
      (try go_wp2_with fail)
      refine hK.out _ _ ?hS176 (fun hHeld' => ?rest176)
      case hS176 => ((try dsimp only); (go_split_ands; refine ⟨?_, ?_, ?_, ?_, ?_, ?_, ?_, ?_⟩ <;> first | (simp [go_sem]; done) | exact cell_below hb' (by assumption)))
      clear hK K
      (try simp only [Act.put, List.setIfInBounds_toArray, List.set_cons_zero, List.set_cons_succ])
      clear hHeld
      have hHeld := hHeld'
      clear hHeld'
      refine tkY 6 hHeld (by rfl) (by kernel_rfl) (by kernel_rfl) (by kernel_rfl) (by rfl) (by intro w hSw; (try dsimp only at hSw); go_simp; try with_reducible rfl) ?_
      (try simp only [Act.put, List.setIfInBounds_toArray, List.set_cons_zero, List.set_cons_succ])
      refine tkY 7 hHeld (by rfl) (by kernel_rfl) (by kernel_rfl) (by kernel_rfl) (by rfl) (by intro w hSw; (try dsimp only at hSw); go_simp; try with_reducible rfl) ?_
      (try simp only [Act.put, List.setIfInBounds_toArray, List.set_cons_zero, List.set_cons_succ])
      refine tkY 8 hHeld (by rfl) (by kernel_rfl) (by kernel_rfl) (by kernel_rfl) (by rfl) (by intro w hSw; (try dsimp only at hSw); go_simp; try with_reducible rfl) ?_
      (try simp only [Act.put, List.setIfInBounds_toArray, List.set_cons_zero, List.set_cons_succ])
      refine tkY 9 hHeld (by rfl) (by kernel_rfl) (by kernel_rfl) (by kernel_rfl) (by rfl) (by intro w hSw; (try dsimp only at hSw); go_simp; try with_reducible rfl) ?_
      (try simp only [Act.put, List.setIfInBounds_toArray, List.set_cons_zero, List.set_cons_succ])
      refine tkY 10 hHeld (by rfl) (by kernel_rfl) (by kernel_rfl) (by kernel_rfl) (by rfl) (by intro w hSw; (try dsimp only at hSw); go_simp; try with_reducible rfl) ?_
      (try simp only [Act.put, List.setIfInBounds_toArray, List.set_cons_zero, List.set_cons_succ])
      refine tkY 11 hHeld (by rfl) (by kernel_rfl) (by kernel_rfl) (by kernel_rfl) (by rfl) (by intro w hSw; (try dsimp only at hSw); go_simp; try with_reducible rfl) ?_
      (try simp only [Act.put, List.setIfInBounds_toArray, List.set_cons_zero, List.set_cons_succ])
      refine tkY 12 hHeld (by rfl) (by kernel_rfl) (by kernel_rfl) (by kernel_rfl) (by rfl) (by intro w hSw; (try dsimp only at hSw); go_simp; try with_reducible rfl) ?_
      (try simp only [Act.put, List.setIfInBounds_toArray, List.set_cons_zero, List.set_cons_succ])
      refine tkY 13 hHeld (by rfl) (by kernel_rfl) (by kernel_rfl) (by kernel_rfl) (by rfl) (by intro w hSw; (try dsimp only at hSw); go_simp; try with_reducible rfl) ?_
      (try simp only [Act.put, List.setIfInBounds_toArray, List.set_cons_zero, List.set_cons_succ])
      refine tkY 14 hHeld (by rfl) (by kernel_rfl) (by kernel_rfl) (by kernel_rfl) (by rfl) (by intro w hSw; (try dsimp only at hSw); go_simp; try with_reducible rfl) ?_
      (try simp only [Act.put, List.setIfInBounds_toArray, List.set_cons_zero, List.set_cons_succ])
      refine wpAnyH_ready (rs := [15]) (by kernel_rfl) (by simp) ?_
      refine AllReadyH.cons (o := ?o177) ?ho177 (fun K hK => ?step177) AllReadyH.nil
      case ho177 => (simp only [List.getElem?_toArray, List.getElem?_cons_succ, List.getElem?_cons_zero]; rfl)
      go_simp
      (go_at_call 154; refine (hZ.out _).mono ?_; rintro e' w' ⟨rfl, hb'⟩)
      (try go_wp2_with fail)
      refine hK.out _ _ ?hS178 (fun hHeld' => ?rest178)
      case hS178 => ((try dsimp only); (go_split_ands; refine ⟨?_, ?_, ?_, ?_, ?_, ?_, ?_, ?_⟩ <;> first | (simp [go_sem]; done) | exact cell_below hb' (by assumption)))
      clear hK K
      (try simp only [Act.put, List.setIfInBounds_toArray, List.set_cons_zero, List.set_cons_succ])
      clear hHeld
      have hHeld := hHeld'
      clear hHeld'
      refine tkY 16 hHeld (by rfl) (by kernel_rfl) (by kernel_rfl) (by kernel_rfl) (by rfl) (by intro w hSw; (try dsimp only at hSw); go_simp; try with_reducible rfl) ?_
      (try simp only [Act.put, List.setIfInBounds_toArray, List.set_cons_zero, List.set_cons_succ])
      refine tkY 17 hHeld (by rfl) (by kernel_rfl) (by kernel_rfl) (by kernel_rfl) (by rfl) (by intro w hSw; (try dsimp only at hSw); go_simp; try with_reducible rfl) ?_
      (try simp only [Act.put, List.setIfInBounds_toArray, List.set_cons_zero, List.set_cons_succ])
      refine tkY 18 hHeld (by rfl) (by kernel_rfl) (by kernel_rfl) (by kernel_rfl) (by rfl) (by intro w hSw; (try dsimp only at hSw); go_simp; try with_reducible rfl) ?_
      (try simp only [Act.put, List.setIfInBounds_toArray, List.set_cons_zero, List.set_cons_succ])
      refine tkY 19 hHeld (by rfl) (by kernel_rfl) (by kernel_rfl) (by kernel_rfl) (by rfl) (by intro w hSw; (try dsimp only at hSw); go_simp; try with_reducible rfl) ?_
      (try simp only [Act.put, List.setIfInBounds_toArray, List.set_cons_zero, List.set_cons_succ])
      refine tkY 20 hHeld (by rfl) (by kernel_rfl) (by kernel_rfl) (by kernel_rfl) (by rfl) (by intro w hSw; (try dsimp only at hSw); go_simp; try with_reducible rfl) ?_
      (try simp only [Act.put, List.setIfInBounds_toArray, List.set_cons_zero, List.set_cons_succ])
      refine tkY 21 hHeld (by rfl) (by kernel_rfl) (by kernel_rfl) (by kernel_rfl) (by rfl) (by intro w hSw; (try dsimp only at hSw); go_simp; try with_reducible rfl) ?_
      (try simp only [Act.put, List.setIfInBounds_toArray, List.set_cons_zero, List.set_cons_succ])
      refine tkY 22 hHeld (by rfl) (by kernel_rfl) (by kernel_rfl) (by kernel_rfl) (by rfl) (by intro w hSw; (try dsimp only at hSw); go_simp; try with_reducible rfl) ?_
      (try simp only [Act.put, List.setIfInBounds_toArray, List.set_cons_zero, List.set_cons_succ])
      refine tkY 23 hHeld (by rfl) (by kernel_rfl) (by kernel_rfl) (by kernel_rfl) (by rfl) (by intro w hSw; (try dsimp only at hSw); go_simp; try with_reducible rfl) ?_
      (try simp only [Act.put, List.setIfInBounds_toArray, List.set_cons_zero, List.set_cons_succ])
      refine tkY 24 hHeld (by rfl) (by kernel_rfl) (by kernel_rfl) (by kernel_rfl) (by rfl) (by intro w hSw; (try dsimp only at hSw); go_simp; try with_reducible rfl) ?_
      (try simp only [Act.put, List.setIfInBounds_toArray, List.set_cons_zero, List.set_cons_succ])
      refine tkY 25 hHeld (by rfl) (by kernel_rfl) (by kernel_rfl) (by kernel_rfl) (by rfl) (by intro w hSw; (try dsimp only at hSw); go_simp; try with_reducible rfl) ?_
      (try simp only [Act.put, List.setIfInBounds_toArray, List.set_cons_zero, List.set_cons_succ])
      refine tkY 26 hHeld (by rfl) (by kernel_rfl) (by kernel_rfl) (by kernel_rfl) (by rfl) (by intro w hSw; (try dsimp only at hSw); go_simp; try with_reducible rfl) ?_
      (try simp only [Act.put, List.setIfInBounds_toArray, List.set_cons_zero, List.set_cons_succ])
      refine tkY 27 hHeld (by rfl) (by kernel_rfl) (by kernel_rfl) (by kernel_rfl) (by rfl) (by intro w hSw; (try dsimp only at hSw); go_simp; try with_reducible rfl) ?_
      (try simp only [Act.put, List.setIfInBounds_toArray, List.set_cons_zero, List.set_cons_succ])
      refine tkY 28 hHeld (by rfl) (by kernel_rfl) (by kernel_rfl) (by kernel_rfl) (by rfl) (by intro w hSw; (try dsimp only at hSw); go_simp; try with_reducible rfl) ?_
      (try simp only [Act.put, List.setIfInBounds_toArray, List.set_cons_zero, List.set_cons_succ])
      refine tkY 29 hHeld (by rfl) (by kernel_rfl) (by kernel_rfl) (by kernel_rfl) (by rfl) (by intro w hSw; (try dsimp only at hSw); go_simp; try with_reducible rfl) ?_
      (try simp only [Act.put, List.setIfInBounds_toArray, List.set_cons_zero, List.set_cons_succ])
      refine tkY 30 hHeld (by rfl) (by kernel_rfl) (by kernel_rfl) (by kernel_rfl) (by rfl) (by intro w hSw; (try dsimp only at hSw); go_simp; try with_reducible rfl) ?_
      refine tkN 31 hHeld (by rfl) (by kernel_rfl) (by kernel_rfl) (by kernel_rfl) (by rfl) ?_
      refine tkN 32 hHeld (by rfl) (by kernel_rfl) (by kernel_rfl) (by kernel_rfl) (by rfl) ?_
      refine tkN 33 hHeld (by rfl) (by kernel_rfl) (by kernel_rfl) (by kernel_rfl) (by rfl) ?_
      (try simp only [Act.put, List.setIfInBounds_toArray, List.set_cons_zero, List.set_cons_succ])
      refine tkY 34 hHeld (by rfl) (by kernel_rfl) (by kernel_rfl) (by kernel_rfl) (by rfl) (by intro w hSw; (try dsimp only at hSw); go_simp; try with_reducible rfl) ?_
      (try simp only [Act.put, List.setIfInBounds_toArray, List.set_cons_zero, List.set_cons_succ])
      refine wpAnyH_done (by kernel_rfl) ?_ _
      refine NoPanic.normal ?_
      go_wp2
      go_ret
      exact ⟨rfl, (B3 _ _ _).trans (hb'.mono (by simp; omega))⟩
    case step171 =>
      go_simp
      (go_at_call 155; refine (l2Ariths_any _).mono ?_; rintro e' w' ⟨rfl, rfl⟩)
      (try go_wp2_with fail)
      refine hK.out _ _ ?hS179 (fun hHeld' => ?rest179)
      case hS179 => ((try dsimp only); (go_split_ands; refine ⟨?_, ?_, ?_, ?_, ?_, ?_, ?_, ?_⟩ <;> first | (simp [go_sem]; done) | exact cell_below hb' (by assumption)))
      clear hK K
      (try simp only [Act.put, List.setIfInBounds_toArray, List.set_cons_zero, List.set_cons_succ])
      clear hHeld
      have hHeld := hHeld'
      clear hHeld'
      refine wpAnyH_ready (rs := [3]) (by kernel_rfl) (by simp) ?_
      refine AllReadyH.cons (o := ?o180) ?ho180 (fun K hK => ?step180) AllReadyH.nil
      case ho180 => (simp only [List.getElem?_toArray, List.getElem?_cons_succ, List.getElem?_cons_zero]; rfl)
      go_simp
      refine hK.out _ _ ?hS181 (fun hHeld' => ?rest181)
      case hS181 => ((try dsimp only); (go_split_ands; refine ⟨?_, ?_, ?_, ?_, ?_, ?_, ?_, ?_⟩ <;> first | (simp [go_sem]; done) | exact cell_below hb' (by assumption)))
      clear hK K
      (try simp only [Act.put, List.setIfInBounds_toArray, List.set_cons_zero, List.set_cons_succ])
      clear hHeld
      have hHeld := hHeld'
      clear hHeld'
      refine wpAnyH_ready (rs := [5]) (by kernel_rfl) (by simp) ?_
      refine AllReadyH.cons (o := ?o182) ?ho182 (fun K hK => ?step182) AllReadyH.nil
      case ho182 => (simp only [List.getElem?_toArray, List.getElem?_cons_succ, List.getElem?_cons_zero]; rfl)
      go_simp
      (go_at_call 141; refine (hIs.out _ _ ?_).mono ?_; (first | exact ar_new _ _ _ (by simp) | exact ar_old _ _ _ _ (by simp)); rintro e' w' ⟨rfl, rfl⟩)
      (try go_wp2_with fail)
      refine hK.out _ _ ?hS183 (fun hHeld' => ?rest183)
      case hS183 => ((try dsimp only); (go_split_ands; refine ⟨?_, ?_, ?_, ?_, ?_, ?_, ?_, ?_⟩ <;> first | (simp [go_sem]; done) | exact cell_below hb' (by assumption)))
      clear hK K
      (try simp only [Act.put, List.setIfInBounds_toArray, List.set_cons_zero, List.set_cons_succ])
      clear hHeld
      have hHeld := hHeld'
      clear hHeld'
      refine tkY 6 hHeld (by rfl) (by kernel_rfl) (by kernel_rfl) (by kernel_rfl) (by rfl) (by intro w hSw; (try dsimp only at hSw); go_simp; try with_reducible rfl) ?_
      (try simp only [Act.put, List.setIfInBounds_toArray, List.set_cons_zero, List.set_cons_succ])
      refine tkY 7 hHeld (by rfl) (by kernel_rfl) (by kernel_rfl) (by kernel_rfl) (by rfl) (by intro w hSw; (try dsimp only at hSw); go_simp; try with_reducible rfl) ?_
      (try simp only [Act.put, List.setIfInBounds_toArray, List.set_cons_zero, List.set_cons_succ])
      refine tkY 8 hHeld (by rfl) (by kernel_rfl) (by kernel_rfl) (by kernel_rfl) (by rfl) (by intro w hSw; (try dsimp only at hSw); go_simp; try with_reducible rfl) ?_
      (try simp only [Act.put, List.setIfInBounds_toArray, List.set_cons_zero, List.set_cons_succ])
      refine tkY 9 hHeld (by rfl) (by kernel_rfl) (by kernel_rfl) (by kernel_rfl) (by rfl) (by intro w hSw; (try dsimp only at hSw); go_simp; try with_reducible rfl) ?_
      (try simp only [Act.put, List.setIfInBounds_toArray, List.set_cons_zero, List.set_cons_succ])
      refine tkY 10 hHeld (by rfl) (by kernel_rfl) (by kernel_rfl) (by kernel_rfl) (by rfl) (by intro w hSw; (try dsimp only at hSw); go_simp; try with_reducible rfl) ?_
      (try simp only [Act.put, List.setIfInBounds_toArray, List.set_cons_zero, List.set_cons_succ])
      refine tkY 11 hHeld (by rfl) (by kernel_rfl) (by kernel_rfl) (by kernel_rfl) (by rfl) (by intro w hSw; (try dsimp only at hSw); go_simp; try with_reducible rfl) ?_
      (try simp only [Act.put, List.setIfInBounds_toArray, List.set_cons_zero, List.set_cons_succ])
      refine tkY 12 hHeld (by rfl) (by kernel_rfl) (by kernel_rfl) (by kernel_rfl) (by rfl) (by intro w hSw; (try dsimp only at hSw); go_simp; try with_reducible rfl) ?_
      (try simp only [Act.put, List.setIfInBounds_toArray, List.set_cons_zero, List.set_cons_succ])
      refine tkY 13 hHeld (by rfl) (by kernel_rfl) (by kernel_rfl) (by kernel_rfl) (by rfl) (by intro w hSw; (try dsimp only at hSw); go_simp; try with_reducible rfl) ?_
      (try simp only [Act.put, List.setIfInBounds_toArray, List.set_cons_zero, List.set_cons_succ])
      refine tkY 14 hHeld (by rfl) (by kernel_rfl) (by kernel_rfl) (by kernel_rfl) (by rfl) (by intro w hSw; (try dsimp only at hSw); go_simp; try with_reducible rfl) ?_
      (try simp only [Act.put, List.setIfInBounds_toArray, List.set_cons_zero, List.set_cons_succ])
      refine wpAnyH_ready (rs := [15]) (by kernel_rfl) (by simp) ?_
      refine AllReadyH.cons (o := ?o184) ?ho184 (fun K hK => ?step184) AllReadyH.nil
      case ho184 => (simp only [List.getElem?_toArray, List.getElem?_cons_succ, List.getElem?_cons_zero]; rfl)
      go_simp
      (go_at_call 154; refine (hZ.out _).mono ?_; rintro e' w' ⟨rfl, hb'⟩)
      (try go_wp2_with fail)
      refine hK.out _ _ ?hS185 (fun hHeld' => ?rest185)
      case hS185 => ((try dsimp only); (go_split_ands; refine ⟨?_, ?_, ?_, ?_, ?_, ?_, ?_, ?_⟩ <;> first | (simp [go_sem]; done) | exact cell_below hb' (by assumption)))
      clear hK K
      (try simp only [Act.put, List.setIfInBounds_toArray, List.set_cons_zero, List.set_cons_succ])
      clear hHeld
      have hHeld := hHeld'
      clear hHeld'
      refine tkY 16 hHeld (by rfl) (by kernel_rfl) (by kernel_rfl) (by kernel_rfl) (by rfl) (by intro w hSw; (try dsimp only at hSw); go_simp; try with_reducible rfl) ?_
      (try simp only [Act.put, List.setIfInBounds_toArray, List.set_cons_zero, List.set_cons_succ])
      refine tkY 17 hHeld (by rfl) (by kernel_rfl) (by kernel_rfl) (by kernel_rfl) (by rfl) (by intro w hSw; (try dsimp only at hSw); go_simp; try with_reducible rfl) ?_
      (try simp only [Act.put, List.setIfInBounds_toArray, List.set_cons_zero, List.set_cons_succ])
      refine tkY 18 hHeld (by rfl) (by kernel_rfl) (by kernel_rfl) (by kernel_rfl) (by rfl) (by intro w hSw; (try dsimp only at hSw); go_simp; try with_reducible rfl) ?_
      (try simp only [Act.put, List.setIfInBounds_toArray, List.set_cons_zero, List.set_cons_succ])
      refine tkY 19 hHeld (by rfl) (by kernel_rfl) (by kernel_rfl) (by kernel_rfl) (by rfl) (by intro w hSw; (try dsimp only at hSw); go_simp; try with_reducible rfl) ?_
      (try simp only [Act.put, List.setIfInBounds_toArray, List.set_cons_zero, List.set_cons_succ])
      refine tkY 20 hHeld (by rfl) (by kernel_rfl) (by kernel_rfl) (by kernel_rfl) (by rfl) (by intro w hSw; (try dsimp only at hSw); go_simp; try with_reducible rfl) ?_
      (try simp only [Act.put, List.setIfInBounds_toArray, List.set_cons_zero, List.set_cons_succ])
      refine tkY 21 hHeld (by rfl) (by kernel_rfl) (by kernel_rfl) (by kernel_rfl) (by rfl) (by intro w hSw; (try dsimp only at hSw); go_simp; try with_reducible rfl) ?_
      (try simp only [Act.put, List.setIfInBounds_toArray, List.set_cons_zero, List.set_cons_succ])
      refine tkY 22 hHeld (by rfl) (by kernel_rfl) (by kernel_rfl) (by kernel_rfl) (by rfl) (by intro w hSw; (try dsimp only at hSw); go_simp; try with_reducible rfl) ?_
      (try simp only [Act.put, List.setIfInBounds_toArray, List.set_cons_zero, List.set_cons_succ])
      refine tkY 23 hHeld (by rfl) (by kernel_rfl) (by kernel_rfl) (by kernel_rfl) (by rfl) (by intro w hSw; (try dsimp only at hSw); go_simp; try with_reducible rfl) ?_
      (try simp only [Act.put, List.setIfInBounds_toArray, List.set_cons_zero, List.set_cons_succ])
      refine tkY 24 hHeld (by rfl) (by kernel_rfl) (by kernel_rfl) (by kernel_rfl) (by rfl) (by intro w hSw; (try dsimp only at hSw); go_simp; try with_reducible rfl) ?_
      (try simp only [Act.put, List.setIfInBounds_toArray, List.set_cons_zero, List.set_cons_succ])
      refine tkY 25 hHeld (by rfl) (by kernel_rfl) (by kernel_rfl) (by kernel_rfl) (by rfl) (by intro w hSw; (try dsimp only at hSw); go_simp; try with_reducible rfl) ?_
      (try simp only [Act.put, List.setIfInBounds_toArray, List.set_cons_zero, List.set_cons_succ])
      refine tkY 26 hHeld (by rfl) (by kernel_rfl) (by kernel_rfl) (by kernel_rfl) (by rfl) (by intro w hSw; (try dsimp only at hSw); go_simp; try with_reducible rfl) ?_
      (try simp only [Act.put, List.setIfInBounds_toArray, List.set_cons_zero, List.set_cons_succ])
      refine tkY 27 hHeld (by rfl) (by kernel_rfl) (by kernel_rfl) (by kernel_rfl) (by rfl) (by intro w hSw; (try dsimp only at hSw); go_simp; try with_reducible rfl) ?_
      (try simp only [Act.put, List.setIfInBounds_toArray, List.set_cons_zero, List.set_cons_succ])
      refine tkY 28 hHeld (by rfl) (by kernel_rfl) (by kernel_rfl) (by kernel_rfl) (by rfl) (by intro w hSw; (try dsimp only at hSw); go_simp; try with_reducible rfl) ?_
      (try simp only [Act.put, List.setIfInBounds_toArray, List.set_cons_zero, List.set_cons_succ])
      refine tkY 29 hHeld (by rfl) (by kernel_rfl) (by kernel_rfl) (by kernel_rfl) (by rfl) (by intro w hSw; (try dsimp only at hSw); go_simp; try with_reducible rfl) ?_
      (try simp only [Act.put, List.setIfInBounds_toArray, List.set_cons_zero, List.set_cons_succ])
      refine tkY 30 hHeld (by rfl) (by kernel_rfl) (by kernel_rfl) (by kernel_rfl) (by rfl) (by intro w hSw; (try dsimp only at hSw); go_simp; try with_reducible rfl) ?_
      refine tkN 31 hHeld (by rfl) (by kernel_rfl) (by kernel_rfl) (by kernel_rfl) (by rfl) ?_
      refine tkN 32 hHeld (by rfl) (by kernel_rfl) (by kernel_rfl) (by kernel_rfl) (by rfl) ?_
      refine tkN 33 hHeld (by rfl) (by kernel_rfl) (by kernel_rfl) (by kernel_rfl) (by rfl) ?_
      (try simp only [Act.put, List.setIfInBounds_toArray, List.set_cons_zero, List.set_cons_succ])
      refine tkY 34 hHeld (by rfl) (by kernel_rfl) (by kernel_rfl) (by kernel_rfl) (by rfl) (by intro w hSw; (try dsimp only at hSw); go_simp; try with_reducible rfl) ?_
      (try simp only [Act.put, List.setIfInBounds_toArray, List.set_cons_zero, List.set_cons_succ])
      refine wpAnyH_done (by kernel_rfl) ?_ _
      refine NoPanic.normal ?_
      go_wp2
      go_ret
      exact ⟨rfl, (B3 _ _ _).trans (hb'.mono (by simp; omega))⟩
  case step168 =>
    go_simp
    (go_at_call 155; refine (l2Ariths_any _).mono ?_; rintro e' w' ⟨rfl, rfl⟩)
    (try go_wp2_with fail)
    refine hK.out _ _ ?hS186 (fun hHeld' => ?rest186)
    case hS186 => ((try dsimp only); (go_split_ands; refine ⟨?_, ?_, ?_, ?_, ?_, ?_, ?_, ?_⟩ <;> first | (simp [go_sem]; done) | exact cell_below hb' (by assumption)))
    clear hK K
    (try simp only [Act.put, List.setIfInBounds_toArray, List.set_cons_zero, List.set_cons_succ])
    clear hHeld
    have hHeld := hHeld'
    clear hHeld'
    refine wpAnyH_ready (rs := [2]) (by kernel_rfl) (by simp) ?_
    refine AllReadyH.cons (o := ?o187) ?ho187 (fun K hK => ?step187) AllReadyH.nil
    case ho187 => (simp only [List.getElem?_toArray, List.getElem?_cons_succ, List.getElem?_cons_zero]; rfl)
    go_simp
    refine hK.out _ _ ?hS188 (fun hHeld' => ?rest188)
    case hS188 => ((try dsimp only); (go_split_ands; refine ⟨?_, ?_, ?_, ?_, ?_, ?_, ?_, ?_⟩ <;> first | (simp [go_sem]; done) | exact cell_below hb' (by assumption)))
    clear hK K
    (try simp only [Act.put, List.setIfInBounds_toArray, List.set_cons_zero, List.set_cons_succ])
    clear hHeld
    have hHeld := hHeld'
    clear hHeld'
    refine wpAnyH_ready (rs := [3]) (by kernel_rfl) (by simp) ?_
    refine AllReadyH.cons (o := ?o189) ?ho189 (fun K hK => ?step189) AllReadyH.nil
    case ho189 => (simp only [List.getElem?_toArray, List.getElem?_cons_succ, List.getElem?_cons_zero]; rfl)
    go_simp
    refine hK.out _ _ ?hS190 (fun hHeld' => ?rest190)
    case hS190 => ((try dsimp only); (go_split_ands; refine ⟨?_, ?_, ?_, ?_, ?_, ?_, ?_, ?_⟩ <;> first | (simp [go_sem]; done) | exact cell_below hb' (by assumption)))
    clear hK K
    (try simp only [Act.put, List.setIfInBounds_toArray, List.set_cons_zero, List.set_cons_succ])
    clear hHeld
    have hHeld := hHeld'
    clear hHeld'
    refine wpAnyH_ready (rs := [5]) (by kernel_rfl) (by simp) ?_
    refine AllReadyH.cons (o := ?o191) ?ho191 (fun K hK => ?step191) AllReadyH.nil
    case ho191 => (simp only [List.getElem?_toArray, List.getElem?_cons_succ, List.getElem?_cons_zero]; rfl)
    go_simp
    (go_at_call 141; refine (hIs.out _ _ ?_).mono ?_; (first | exact ar_new _ _ _ (by simp) | exact ar_old _ _ _ _ (by simp)); rintro e' w' ⟨rfl, rfl⟩)
    (try go_wp2_with fail)
    refine hK.out _ _ ?hS192 (fun hHeld' => ?rest192)
    case hS192 => ((try dsimp only); (go_split_ands; refine ⟨?_, ?_, ?_, ?_, ?_, ?_, ?_, ?_⟩ <;> first | (simp [go_sem]; done) | exact cell_below hb' (by assumption)))
    clear hK K
    (try simp only [Act.put, List.setIfInBounds_toArray, List.set_cons_zero, List.set_cons_succ])
    clear hHeld
    have hHeld := hHeld'
    clear hHeld'
    refine tkY 6 hHeld (by rfl) (by kernel_rfl) (by kernel_rfl) (by kernel_rfl) (by rfl) (by intro w hSw; (try dsimp only at hSw); go_simp; try with_reducible rfl) ?_
    (try simp only [Act.put, List.setIfInBounds_toArray, List.set_cons_zero, List.set_cons_succ])
    refine tkY 7 hHeld (by rfl) (by kernel_rfl) (by kernel_rfl) (by kernel_rfl) (by rfl) (by intro w hSw; (try dsimp only at hSw); go_simp; try with_reducible rfl) ?_
    (try simp only [Act.put, List.setIfInBounds_toArray, List.set_cons_zero, List.set_cons_succ])
    refine tkY 8 hHeld (by rfl) (by kernel_rfl) (by kernel_rfl) (by kernel_rfl) (by rfl) (by intro w hSw; (try dsimp only at hSw); go_simp; try with_reducible rfl) ?_
    (try simp only [Act.put, List.setIfInBounds_toArray, List.set_cons_zero, List.set_cons_succ])
    refine tkY 9 hHeld (by rfl) (by kernel_rfl) (by kernel_rfl) (by kernel_rfl) (by rfl) (by intro w hSw; (try dsimp only at hSw); go_simp; try with_reducible rfl) ?_
    (try simp only [Act.put, List.setIfInBounds_toArray, List.set_cons_zero, List.set_cons_succ])
    refine tkY 10 hHeld (by rfl) (by kernel_rfl) (by kernel_rfl) (by kernel_rfl) (by rfl) (by intro w hSw; (try dsimp only at hSw); go_simp; try with_reducible rfl) ?_
    (try simp only [Act.put, List.setIfInBounds_toArray, List.set_cons_zero, List.set_cons_succ])
    refine tkY 11 hHeld (by rfl) (by kernel_rfl) (by kernel_rfl) (by kernel_rfl) (by rfl) (by intro w hSw; (try dsimp only at hSw); go_simp; try with_reducible rfl) ?_
    (try simp only [Act.put, List.setIfInBounds_toArray, List.set_cons_zero, List.set_cons_succ])
    refine tkY 12 hHeld (by rfl) (by kernel_rfl) (by kernel_rfl) (by kernel_rfl) (by rfl) (by intro w hSw; (try dsimp only at hSw); go_simp; try with_reducible rfl) ?_
    (try simp only [Act.put, List.setIfInBounds_toArray, List.set_cons_zero, List.set_cons_succ])
    refine tkY 13 hHeld (by rfl) (by kernel_rfl) (by kernel_rfl) (by kernel_rfl) (by rfl) (by intro w hSw; (try dsimp only at hSw); go_simp; try with_reducible rfl) ?_
    (try simp only [Act.put, List.setIfInBounds_toArray, List.set_cons_zero, List.set_cons_succ])
    refine tkY 14 hHeld (by rfl) (by kernel_rfl) (by kernel_rfl) (by kernel_rfl) (by rfl) (by intro w hSw; (try dsimp only at hSw); go_simp; try with_reducible rfl) ?_
    (try simp only [Act.put, List.setIfInBounds_toArray, List.set_cons_zero, List.set_cons_succ])
    refine wpAnyH_ready (rs := [15]) (by kernel_rfl) (by simp) ?_
    refine AllReadyH.cons (o := ?o193) ?ho193 (fun K hK => ?step193) AllReadyH.nil
    case ho193 => (simp only [List.getElem?_toArray, List.getElem?_cons_succ, List.getElem?_cons_zero]; rfl)
    go_simp
    (go_at_call 154; refine (hZ.out _).mono ?_; rintro e' w' ⟨rfl, hb'⟩)
    (try go_wp2_with fail)
    refine hK.out _ _ ?hS194 (fun hHeld' => ?rest194)
    case hS194 => ((try dsimp only); (go_split_ands; refine ⟨?_, ?_, ?_, ?_, ?_, ?_, ?_, ?_⟩ <;> first | (simp [go_sem]; done) | exact cell_below hb' (by assumption)))
    clear hK K
    (try simp only [Act.put, List.setIfInBounds_toArray, List.set_cons_zero, List.set_cons_succ])
    clear hHeld
    have hHeld := hHeld'
    clear hHeld'
    refine tkY 16 hHeld (by rfl) (by kernel_rfl) (by kernel_rfl) (by kernel_rfl) (by rfl) (by intro w hSw; (try dsimp only at hSw); go_simp; try with_reducible rfl) ?_
    (try simp only [Act.put, List.setIfInBounds_toArray, List.set_cons_zero, List.set_cons_succ])
    refine tkY 17 hHeld (by rfl) (by kernel_rfl) (by kernel_rfl) (by kernel_rfl) (by rfl) (by intro w hSw; (try dsimp only at hSw); go_simp; try with_reducible rfl) ?_
    (try simp only [Act.put, List.setIfInBounds_toArray, List.set_cons_zero, List.set_cons_succ])
    refine tkY 18 hHeld (by rfl) (by kernel_rfl) (by kernel_rfl) (by kernel_rfl) (by rfl) (by intro w hSw; (try dsimp only at hSw); go_simp; try with_reducible rfl) ?_
    (try simp only [Act.put, List.setIfInBounds_toArray, List.set_cons_zero, List.set_cons_succ])
    refine tkY 19 hHeld (by rfl) (by kernel_rfl) (by kernel_rfl) (by kernel_rfl) (by rfl) (by intro w hSw; (try dsimp only at hSw); go_simp; try with_reducible rfl) ?_
    (try simp only [Act.put, List.setIfInBounds_toArray, List.set_cons_zero, List.set_cons_succ])
    refine tkY 20 hHeld (by rfl) (by kernel_rfl) (by kernel_rfl) (by kernel_rfl) (by rfl) (by intro w hSw; (try dsimp only at hSw); go_simp; try with_reducible rfl) ?_
    (try simp only [Act.put, List.setIfInBounds_toArray, List.set_cons_zero, List.set_cons_succ])
    refine tkY 21 hHeld (by rfl) (by kernel_rfl) (by kernel_rfl) (by kernel_rfl) (by rfl) (by intro w hSw; (try dsimp only at hSw); go_simp; try with_reducible rfl) ?_
    (try simp only [Act.put, List.setIfInBounds_toArray, List.set_cons_zero, List.set_cons_succ])
    refine tkY 22 hHeld (by rfl) (by kernel_rfl) (by kernel_rfl) (by kernel_rfl) (by rfl) (by intro w hSw; (try dsimp only at hSw); go_simp; try with_reducible rfl) ?_
    (try simp only [Act.put, List.setIfInBounds_toArray, List.set_cons_zero, List.set_cons_succ])
    refine tkY 23 hHeld (by rfl) (by kernel_rfl) (by kernel_rfl) (by kernel_rfl) (by rfl) (by intro w hSw; (try dsimp only at hSw); go_simp; try with_reducible rfl) ?_
    (try simp only [Act.put, List.setIfInBounds_toArray, List.set_cons_zero, List.set_cons_succ])
    refine tkY 24 hHeld (by rfl) (by kernel_rfl) (by kernel_rfl) (by kernel_rfl) (by rfl) (by intro w hSw; (try dsimp only at hSw); go_simp; try with_reducible rfl) ?_
    (try simp only [Act.put, List.setIfInBounds_toArray, List.set_cons_zero, List.set_cons_succ])
    refine tkY 25 hHeld (by rfl) (by kernel_rfl) (by kernel_rfl) (by kernel_rfl) (by rfl) (by intro w hSw; (try dsimp only at hSw); go_simp; try with_reducible rfl) ?_
    (try simp only [Act.put, List.setIfInBounds_toArray, List.set_cons_zero, List.set_cons_succ])
    refine tkY 26 hHeld (by rfl) (by kernel_rfl) (by kernel_rfl) (by kernel_rfl) (by rfl) (by intro w hSw; (try dsimp only at hSw); go_simp; try with_reducible rfl) ?_
    (try simp only [Act.put, List.setIfInBounds_toArray, List.set_cons_zero, List.set_cons_succ])
    refine tkY 27 hHeld (by rfl) (by kernel_rfl) (by kernel_rfl) (by kernel_rfl) (by rfl) (by intro w hSw; (try dsimp only at hSw); go_simp; try with_reducible rfl) ?_
    (try simp only [Act.put, List.setIfInBounds_toArray, List.set_cons_zero, List.set_cons_succ])
    refine tkY 28 hHeld (by rfl) (by kernel_rfl) (by kernel_rfl) (by kernel_rfl) (by rfl) (by intro w hSw; (try dsimp only at hSw); go_simp; try with_reducible rfl) ?_
    (try simp only [Act.put, List.setIfInBounds_toArray, List.set_cons_zero, List.set_cons_succ])
    refine tkY 29 hHeld (by rfl) (by kernel_rfl) (by kernel_rfl) (by kernel_rfl) (by rfl) (by intro w hSw; (try dsimp only at hSw); go_simp; try with_reducible rfl) ?_
    (try simp only [Act.put, List.setIfInBounds_toArray, List.set_cons_zero, List.set_cons_succ])
    refine tkY 30 hHeld (by rfl) (by kernel_rfl) (by kernel_rfl) (by kernel_rfl) (by rfl) (by intro w hSw; (try dsimp only at hSw); go_simp; try with_reducible rfl) ?_
    refine tkN 31 hHeld (by rfl) (by kernel_rfl) (by kernel_rfl) (by kernel_rfl) (by rfl) ?_
    refine tkN 32 hHeld (by rfl) (by kernel_rfl) (by kernel_rfl) (by kernel_rfl) (by rfl) ?_
    refine tkN 33 hHeld (by rfl) (by kernel_rfl) (by kernel_rfl) (by kernel_rfl) (by rfl) ?_
    (try simp only [Act.put, List.setIfInBounds_toArray, List.set_cons_zero, List.set_cons_succ])
    refine tkY 34 hHeld (by rfl) (by kernel_rfl) (by kernel_rfl) (by kernel_rfl) (by rfl) (by intro w hSw; (try dsimp only at hSw); go_simp; try with_reducible rfl) ?_
    (try simp only [Act.put, List.setIfInBounds_toArray, List.set_cons_zero, List.set_cons_succ])
    refine wpAnyH_done (by kernel_rfl) ?_ _
    refine NoPanic.normal ?_
    go_wp2
    go_ret
    exact ⟨rfl, (B3 _ _ _).trans (hb'.mono (by simp; omega))⟩
end Go.Proofs.YtognpkdgphebeaaGreat

namespace Go.Proofs.YtognpkdgphebeaaGreat
open Go.RowKit
attribute [local go_sem ↓] Go.wp_at_zero Go.wp_at_succ

theorem hidSE {p : Prop} (h : p) : Hid p := h

set_option maxHeartbeats 3200000 in
theorem goodExpr_o7a (a : Option Addr) (c : Nat) (es : List Ex) (S : List Sp) (e : Ex) (w : World) {q : Option Nat} (hv : ExsAt q w a es) (hl : es.length ≤ 60) (he : es[S.length]? = some e) (ho0 : 0 ≤ e.op) (ho1 : e.op < 256) (k2 : e.kind = 2) (har : isAr e.op = true) (hva : e.var.toList.isEmpty = true) (hz : zeroV e.val = true) (hS : Spans es S) (bn : Nat) (hbn : bn + 1 = S.length) (heb : e.b = (bn : Int)) (sb : Sp) (hsb : S[bn]? = some sb) (ha0 : ¬ e.a < 0) (hd : (e.a == (sb.1 : Int) - 1) = false) :
    Calls Tryz.prog 139 #[.slice a es.length c, .int .i64 (S.length : Int)] w fun e' w' => e' = .returned (.bool false) ∧ Below w.heap.size w w' := by
  have hkl : S.length < es.length := (List.getElem?_eq_some_iff.1 he).1
  have B1 : ∀ o, Below w.heap.size w (w.alloc o) := fun o => (Below.refl _ _).alloc (Nat.le_refl _) _
  have B3 : ∀ o o1 o2, Below w.heap.size w (((w.alloc o).drew.alloc o1).alloc o2) := fun o o1 o2 => ((B1 o).drew.alloc (by simp) _).alloc (by simp; omega) _
  have hv0 := hv
  obtain ⟨b, o, rfl, hq, c0, c1, c2, c3, c4, c5, c6, c7⟩ := hv.get he
  have hcv := run_conv1 e.op
  have hIs := hidSE (l2Is_ar e.op ho0 ho1)
  rw [har] at hIs
  have hZ := hidSE (fun w => l2Zero_any e.val w)
  rw [hz] at hZ
  have hbi : (e.b != (S.length : Int) - 1) = false := by simp [heb]; omega
  have hw : IntKind.i64.wrap ((S.length : Int) - 1) = (S.length : Int) - 1 := by rw [IntKind.wrap_i64]; omega
  have hb0d : decide (e.b < 0) = false := decide_eq_false (by omega)
  have ha0d : decide (e.a < 0) = false := decide_eq_false ha0
  have hfl := hS.first_le bn sb hsb
  have hw2 : IntKind.i64.wrap ((sb.1 : Int) - 1) = (sb.1 : Int) - 1 := by rw [IntKind.wrap_i64]; omega
  have hF0 : ∀ w', ExsAt q w' (some ⟨b, o, none⟩) es → Calls Tryz.prog 142 #[.slice (some ⟨b, o, none⟩) es.length c, .int .i64 e.b] w' fun e w'' => e = .returned (.int .i64 (sb.1 : Int)) ∧ w'' = w' := fun w' h => by
    rw [heb]
    exact l2First_any (some ⟨b, o, none⟩) c es S bn sb w' h hS hsb
  have hF := hidSE hF0
  clear hF0
  clear heb hsb hfl hbn hS

  rw [k2] at c0
  clear hq hv
  have h1 : (e.op == 0) = false := by
    cases h : (e.op == 0)
    · rfl
    · have h0 : e.op = 0 := by simpa using h
      rw [h0] at har
      exact absurd har (by decide)
  go_enter Tryz.func139, Tryz.ntmps139
  go_wp2
  clear c0 c1 c2 c3 c4 c5 c6 c7 he
  (try clear h3); (try clear h2); clear h1
  refine wp_region_noPanic ?_
  refine wp_region_held_drew (S := (fun w' => w'.cell? ⟨w.heap.size, 0, none⟩ = some (.int .i64 2) ∧ w'.cell? ⟨w.heap.size, 1, none⟩ = some (.int .u8 e.op) ∧ w'.cell? ⟨w.heap.size, 2, none⟩ = some (.string e.var) ∧ w'.cell? ⟨w.heap.size, 3, none⟩ = some (.int .i64 e.val.kind) ∧ w'.cell? ⟨w.heap.size, 4, none⟩ = some (.int .i64 e.val.num) ∧ w'.cell? ⟨w.heap.size, 5, none⟩ = some (.string e.val.sym) ∧ w'.cell? ⟨w.heap.size, 6, none⟩ = some (.int .i64 e.a) ∧ w'.cell? ⟨w.heap.size, 7, none⟩ = some (.int .i64 e.b))) (by kernel_rfl) ?_ (fun hHeld => ?_)
  · (try dsimp only)
    (go_split_ands; refine ⟨?_, ?_, ?_, ?_, ?_, ?_, ?_, ?_⟩ <;> first | (simp [go_sem]; done) | exact cell_below hb' (by assumption))
  refine tkY 0 hHeld (by rfl) (by kernel_rfl) (by kernel_rfl) (by kernel_rfl) (by rfl) (by intro w hSw; (try dsimp only at hSw); go_simp; try with_reducible rfl) ?_
  (try simp only [Act.put, List.setIfInBounds_toArray, List.set_cons_zero, List.set_cons_succ])
  refine tkY 1 hHeld (by rfl) (by kernel_rfl) (by kernel_rfl) (by kernel_rfl) (by rfl) (by intro w hSw; (try dsimp only at hSw); go_simp; try with_reducible rfl) ?_
  (try simp only [Act.put, List.setIfInBounds_toArray, List.set_cons_zero, List.set_cons_succ])
  refine wpAnyH_ready (rs := [2, 4]) (by kernel_rfl) (by simp) ?_
  refine AllReadyH.cons (o := ?o223) ?ho223 (fun K hK => ?step223) (AllReadyH.cons (o := ?o224) ?ho224 (fun K hK => ?step224) AllReadyH.nil)
  case ho223 => (simp only [List.getElem?_toArray, List.getElem?_cons_succ, List.getElem?_cons_zero]; rfl)
  case ho224 => (simp only [List.getElem?_toArray, List.getElem?_cons_succ, List.getElem?_cons_zero]; rfl)
  case step223 =>
    go_simp
    refine hK.out _ _ ?hS225 (fun hHeld' => ?rest225)
    case hS225 => ((try dsimp only); (go_split_ands; refine ⟨?_, ?_, ?_, ?_, ?_, ?_, ?_, ?_⟩ <;> first | (simp [go_sem]; done) | exact cell_below hb' (by assumption)))
    clear hK K
    (try simp only [Act.put, List.setIfInBounds_toArray, List.set_cons_zero, List.set_cons_succ])
    clear hHeld
    have hHeld := hHeld'
    clear hHeld'
    refine wpAnyH_ready (rs := [3, 4]) (by kernel_rfl) (by simp) ?_
    refine AllReadyH.cons (o := ?o226) ?ho226 (fun K hK => ?step226) (AllReadyH.cons (o := ?o227) ?ho227 (fun K hK => ?step227) AllReadyH.nil)
    case ho226 => (simp only [List.getElem?_toArray, List.getElem?_cons_succ, List.getElem?_cons_zero]; rfl)
    case ho227 => (simp only [List.getElem?_toArray, List.getElem?_cons_succ, List.getElem?_cons_zero]; rfl)
    case step226 =>
      go_simp
      refine hK.out _ _ ?hS228 (fun hHeld' => ?rest228)
      case hS228 => ((try dsimp only); (go_split_ands; refine ⟨?_, ?_, ?_, ?_, ?_, ?_, ?_, ?_⟩ <;> first | (simp [go_sem]; done) | exact cell_below hb' (by assumption)))
      clear hK K
      (try simp only [Act.put, List.setIfInBounds_toArray, List.set_cons_zero, List.set_cons_succ])
      clear hHeld
      have hHeld := hHeld'
      clear hHeld'
      refine wpAnyH_ready (rs := [4]) (by kernel_rfl) (by simp) ?_
      refine AllReadyH.cons (o := ?o229) ?ho229 (fun K hK => ?step229) AllReadyH.nil
      case ho229 => (simp only [List.getElem?_toArray, List.getElem?_cons_succ, List.getElem?_cons_zero]; rfl)
      go_simp
      (go_at_call 155; refine (l2Ariths_any _).mono ?_; rintro e' w' ⟨rfl, rfl⟩)
      (try go_wp2_with fail)
      refine hK.out _ _ ?hS230 (fun hHeld' => ?rest230)
      case hS230 => ((try dsimp only); (go_split_ands; refine ⟨?_, ?_, ?_, ?_, ?_, ?_, ?_, ?_⟩ <;> first | (simp [go_sem]; done) | exact cell_below hb' (by assumption)))
      clear hK K
      (try simp only [Act.put, List.setIfInBounds_toArray, List.set_cons_zero, List.set_cons_succ])
      clear hHeld
      have hHeld := hHeld'
      clear hHeld'
      refine wpAnyH_ready (rs := [5]) (by kernel_rfl) (by simp) ?_
      refine AllReadyH.cons (o := ?o231) ?ho231 (fun K hK => ?step231) AllReadyH.nil
      case ho231 => (simp only [List.getElem?_toArray, List.getElem?_cons_succ, List.getElem?_cons_zero]; rfl)
      go_simp
      (go_at_call 141; refine (hIs.out _ _ ?_).mono ?_; (first | exact ar_new _ _ _ (by simp) | exact ar_old _ _ _ _ (by simp)); rintro e' w' ⟨rfl, rfl⟩)
      (try go_wp2_with fail)
      refine hK.out _ _ ?hS232 (fun hHeld' => ?rest232)
      case hS232 => ((try dsimp only); (go_split_ands; refine ⟨?_, ?_, ?_, ?_, ?_, ?_, ?_, ?_⟩ <;> first | (simp [go_sem]; done) | exact cell_below hb' (by assumption)))
      clear hK K
      (try simp only [Act.put, List.setIfInBounds_toArray, List.set_cons_zero, List.set_cons_succ])
      clear hHeld
      have hHeld := hHeld'
      clear hHeld'
      refine tkY 6 hHeld (by rfl) (by kernel_rfl) (by kernel_rfl) (by kernel_rfl) (by rfl) (by intro w hSw; (try dsimp only at hSw); go_simp; try with_reducible rfl) ?_
      (try simp only [Act.put, List.setIfInBounds_toArray, List.set_cons_zero, List.set_cons_succ])
      refine tkY 7 hHeld (by rfl) (by kernel_rfl) (by kernel_rfl) (by kernel_rfl) (by rfl) (by intro w hSw; (try dsimp only at hSw); go_simp; try with_reducible rfl) ?_
      (try simp only [Act.put, List.setIfInBounds_toArray, List.set_cons_zero, List.set_cons_succ])
      refine tkY 8 hHeld (by rfl) (by kernel_rfl) (by kernel_rfl) (by kernel_rfl) (by rfl) (by intro w hSw; (try dsimp only at hSw); go_simp; try with_reducible rfl) ?_
      (try simp only [Act.put, List.setIfInBounds_toArray, List.set_cons_zero, List.set_cons_succ])
      refine tkY 9 hHeld (by rfl) (by kernel_rfl) (by kernel_rfl) (by kernel_rfl) (by rfl) (by intro w hSw; (try dsimp only at hSw); go_simp; try with_reducible rfl) ?_
      (try simp only [Act.put, List.setIfInBounds_toArray, List.set_cons_zero, List.set_cons_succ])
      refine tkY 10 hHeld (by rfl) (by kernel_rfl) (by kernel_rfl) (by kernel_rfl) (by rfl) (by intro w hSw; (try dsimp only at hSw); go_simp; try with_reducible rfl) ?_
      (try simp only [Act.put, List.setIfInBounds_toArray, List.set_cons_zero, List.set_cons_succ])
      refine tkY 11 hHeld (by rfl) (by kernel_rfl) (by kernel_rfl) (by kernel_rfl) (by rfl) (by intro w hSw; (try dsimp only at hSw); go_simp; try with_reducible rfl) ?_
      (try simp only [Act.put, List.setIfInBounds_toArray, List.set_cons_zero, List.set_cons_succ])
      refine tkY 12 hHeld (by rfl) (by kernel_rfl) (by kernel_rfl) (by kernel_rfl) (by rfl) (by intro w hSw; (try dsimp only at hSw); go_simp; try with_reducible rfl) ?_
      (try simp only [Act.put, List.setIfInBounds_toArray, List.set_cons_zero, List.set_cons_succ])
      refine tkY 13 hHeld (by rfl) (by kernel_rfl) (by kernel_rfl) (by kernel_rfl) (by rfl) (by intro w hSw; (try dsimp only at hSw); go_simp; try with_reducible rfl) ?_
      (try simp only [Act.put, List.setIfInBounds_toArray, List.set_cons_zero, List.set_cons_succ])
      refine tkY 14 hHeld (by rfl) (by kernel_rfl) (by kernel_rfl) (by kernel_rfl) (by rfl) (by intro w hSw; (try dsimp only at hSw); go_simp; try with_reducible rfl) ?_
      (try simp only [Act.put, List.setIfInBounds_toArray, List.set_cons_zero, List.set_cons_succ])
      refine wpAnyH_ready (rs := [15]) (by kernel_rfl) (by simp) ?_
      refine AllReadyH.cons (o := ?o233) ?ho233 (fun K hK => ?step233) AllReadyH.nil
      case ho233 => (simp only [List.getElem?_toArray, List.getElem?_cons_succ, List.getElem?_cons_zero]; rfl)
      go_simp
      (go_at_call 154; refine (hZ.out _).mono ?_; rintro e' w' ⟨rfl, hb'⟩)
      (try go_wp2_with fail)
      refine hK.out _ _ ?hS234 (fun hHeld' => ?rest234)
      case hS234 => ((try dsimp only); (go_split_ands; refine ⟨?_, ?_, ?_, ?_, ?_, ?_, ?_, ?_⟩ <;> first | (simp [go_sem]; done) | exact cell_below hb' (by assumption)))
      clear hK K
      (try simp only [Act.put, List.setIfInBounds_toArray, List.set_cons_zero, List.set_cons_succ])
      clear hHeld
      have hHeld := hHeld'
      clear hHeld'
      refine tkY 16 hHeld (by rfl) (by kernel_rfl) (by kernel_rfl) (by kernel_rfl) (by rfl) (by intro w hSw; (try dsimp only at hSw); go_simp; try with_reducible rfl) ?_
      (try simp only [Act.put, List.setIfInBounds_toArray, List.set_cons_zero, List.set_cons_succ])
      refine tkY 17 hHeld (by rfl) (by kernel_rfl) (by kernel_rfl) (by kernel_rfl) (by rfl) (by intro w hSw; (try dsimp only at hSw); go_simp; try with_reducible rfl) ?_
      (try simp only [Act.put, List.setIfInBounds_toArray, List.set_cons_zero, List.set_cons_succ])
      refine tkY 18 hHeld (by rfl) (by kernel_rfl) (by kernel_rfl) (by kernel_rfl) (by rfl) (by intro w hSw; (try dsimp only at hSw); go_simp; try with_reducible rfl) ?_
      (try simp only [Act.put, List.setIfInBounds_toArray, List.set_cons_zero, List.set_cons_succ])
      refine tkY 19 hHeld (by rfl) (by kernel_rfl) (by kernel_rfl) (by kernel_rfl) (by rfl) (by intro w hSw; (try dsimp only at hSw); go_simp; try with_reducible rfl) ?_
      (try simp only [Act.put, List.setIfInBounds_toArray, List.set_cons_zero, List.set_cons_succ])
      refine tkY 20 hHeld (by rfl) (by kernel_rfl) (by kernel_rfl) (by kernel_rfl) (by rfl) (by intro w hSw; (try dsimp only at hSw); go_simp; try with_reducible rfl) ?_
      (try simp only [Act.put, List.setIfInBounds_toArray, List.set_cons_zero, List.set_cons_succ])
      refine tkY 21 hHeld (by rfl) (by kernel_rfl) (by kernel_rfl) (by kernel_rfl) (by rfl) (by intro w hSw; (try dsimp only at hSw); go_simp; try with_reducible rfl) ?_
      (try simp only [Act.put, List.setIfInBounds_toArray, List.set_cons_zero, List.set_cons_succ])
      refine tkY 22 hHeld (by rfl) (by kernel_rfl) (by kernel_rfl) (by kernel_rfl) (by rfl) (by intro w hSw; (try dsimp only at hSw); go_simp; try with_reducible rfl) ?_
      (try simp only [Act.put, List.setIfInBounds_toArray, List.set_cons_zero, List.set_cons_succ])
      refine tkY 23 hHeld (by rfl) (by kernel_rfl) (by kernel_rfl) (by kernel_rfl) (by rfl) (by intro w hSw; (try dsimp only at hSw); go_simp; try with_reducible rfl) ?_
      (try simp only [Act.put, List.setIfInBounds_toArray, List.set_cons_zero, List.set_cons_succ])
      refine tkY 24 hHeld (by rfl) (by kernel_rfl) (by kernel_rfl) (by kernel_rfl) (by rfl) (by intro w hSw; (try dsimp only at hSw); go_simp; try with_reducible rfl) ?_
      (try simp only [Act.put, List.setIfInBounds_toArray, List.set_cons_zero, List.set_cons_succ])
      refine tkY 25 hHeld (by rfl) (by kernel_rfl) (by kernel_rfl) (by kernel_rfl) (by rfl) (by intro w hSw; (try dsimp only at hSw); go_simp; try with_reducible rfl) ?_
      (try simp only [Act.put, List.setIfInBounds_toArray, List.set_cons_zero, List.set_cons_succ])
      refine tkY 26 hHeld (by rfl) (by kernel_rfl) (by kernel_rfl) (by kernel_rfl) (by rfl) (by intro w hSw; (try dsimp only at hSw); go_simp; try with_reducible rfl) ?_
      (try simp only [Act.put, List.setIfInBounds_toArray, List.set_cons_zero, List.set_cons_succ])
      refine tkY 27 hHeld (by rfl) (by kernel_rfl) (by kernel_rfl) (by kernel_rfl) (by rfl) (by intro w hSw; (try dsimp only at hSw); go_simp; try with_reducible rfl) ?_
      (try simp only [Act.put, List.setIfInBounds_toArray, List.set_cons_zero, List.set_cons_succ])
      refine tkY 28 hHeld (by rfl) (by kernel_rfl) (by kernel_rfl) (by kernel_rfl) (by rfl) (by intro w hSw; (try dsimp only at hSw); go_simp; try with_reducible rfl) ?_
      (try simp only [Act.put, List.setIfInBounds_toArray, List.set_cons_zero, List.set_cons_succ])
      refine tkY 29 hHeld (by rfl) (by kernel_rfl) (by kernel_rfl) (by kernel_rfl) (by rfl) (by intro w hSw; (try dsimp only at hSw); go_simp; try with_reducible rfl) ?_
      (try simp only [Act.put, List.setIfInBounds_toArray, List.set_cons_zero, List.set_cons_succ])
      refine tkY 30 hHeld (by rfl) (by kernel_rfl) (by kernel_rfl) (by kernel_rfl) (by rfl) (by intro w hSw; (try dsimp only at hSw); go_simp; try with_reducible rfl) ?_
      (try simp only [Act.put, List.setIfInBounds_toArray, List.set_cons_zero, List.set_cons_succ])
      refine tkY 31 hHeld (by rfl) (by kernel_rfl) (by kernel_rfl) (by kernel_rfl) (by rfl) (by intro w hSw; (try dsimp only at hSw); go_simp; try with_reducible rfl) ?_
      (try simp only [Act.put, List.setIfInBounds_toArray, List.set_cons_zero, List.set_cons_succ])
      refine tkY 32 hHeld (by rfl) (by kernel_rfl) (by kernel_rfl) (by kernel_rfl) (by rfl) (by intro w hSw; (try dsimp only at hSw); go_simp; try with_reducible rfl) ?_
      (try simp only [Act.put, List.setIfInBounds_toArray, List.set_cons_zero, List.set_cons_succ])
      refine tkY 33 hHeld (by rfl) (by kernel_rfl) (by kernel_rfl) (by kernel_rfl) (by rfl) (by intro w hSw; (try dsimp only at hSw); go_simp; try with_reducible rfl) ?_
      (try simp only [Act.put, List.setIfInBounds_toArray, List.set_cons_zero, List.set_cons_succ])
      refine tkY 34 hHeld (by rfl) (by kernel_rfl) (by kernel_rfl) (by kernel_rfl) (by rfl) (by intro w hSw; (try dsimp only at hSw); go_simp; try with_reducible rfl) ?_
      (try simp only [Act.put, List.setIfInBounds_toArray, List.set_cons_zero, List.set_cons_succ])
      refine wpAnyH_done (by kernel_rfl) ?_ _
      refine NoPanic.normal ?_
      obtain ⟨y0, y1, y2, y3, y4, y5, y6, y7⟩ := hHeld
      have hBz : Below w.heap.size w w' := (B3 _ _ _).trans (hb'.mono (by simp; omega))
      have hE := hidSE (hv0.below hBz)
      clear hb' hv0
      go_wp2
      go_quiet (first | (go_at_call 142; refine Calls.quiet_of_same (hF.out _ (hE.out.below ?_)); exact below_drewN' (Below.refl _ _)))
      go_wp2
      go_ret
      exact ⟨rfl, below_drewN' hBz⟩
    case step227 =>
      go_simp
      (go_at_call 155; refine (l2Ariths_any _).mono ?_; rintro e' w' ⟨rfl, rfl⟩)
      (try go_wp2_with fail)
      refine hK.out _ _ ?hS235 (fun hHeld' => ?rest235)
      case hS235 => ((try dsimp only); (go_split_ands; refine ⟨?_, ?_, ?_, ?_, ?_, ?_, ?_, ?_⟩ <;> first | (simp [go_sem]; done) | exact cell_below hb' (by assumption)))
      clear hK K
      (try simp only [Act.put, List.setIfInBounds_toArray, List.set_cons_zero, List.set_cons_succ])
      clear hHeld
      have hHeld := hHeld'
      clear hHeld'
      refine wpAnyH_ready (rs := [3]) (by kernel_rfl) (by simp) ?_
      refine AllReadyH.cons (o := ?o236) ?ho236 (fun K hK => ?step236) AllReadyH.nil
      case ho236 => (simp only [List.getElem?_toArray, List.getElem?_cons_succ, List.getElem?_cons_zero]; rfl)
      go_simp
      refine hK.out _ _ ?hS237 (fun hHeld' => ?rest237)
      case hS237 => ((try dsimp only); (go_split_ands; refine ⟨?_, ?_, ?_, ?_, ?_, ?_, ?_, ?_⟩ <;> first | (simp [go_sem]; done) | exact cell_below hb' (by assumption)))
      clear hK K
      (try simp only [Act.put, List.setIfInBounds_toArray, List.set_cons_zero, List.set_cons_succ])
      clear hHeld
      have hHeld := hHeld'
      clear hHeld'
      refine wpAnyH_ready (rs := [5]) (by kernel_rfl) (by simp) ?_
      refine AllReadyH.cons (o := ?o238) ?ho238 (fun K hK => ?step238) AllReadyH.nil
      case ho238 => (simp only [List.getElem?_toArray, List.getElem?_cons_succ, List.getElem?_cons_zero]; rfl)
      go_simp
      (go_at_call 141; refine (hIs.out _ _ ?_).mono ?_; (first | exact ar_new _ _ _ (by simp) | exact ar_old _ _ _ _ (by simp)); rintro e' w' ⟨rfl, rfl⟩)
      (try go_wp2_with fail)
      refine hK.out _ _ ?hS239 (fun hHeld' => ?rest239)
      case hS239 => ((try dsimp only); (go_split_ands; refine ⟨?_, ?_, ?_, ?_, ?_, ?_, ?_, ?_⟩ <;> first | (simp [go_sem]; done) | exact cell_below hb' (by assumption)))
      clear hK K
      (try simp only [Act.put, List.setIfInBounds_toArray, List.set_cons_zero, List.set_cons_succ])
      clear hHeld
      have hHeld := hHeld'
      clear hHeld'
      refine tkY 6 hHeld (by rfl) (by kernel_rfl) (by kernel_rfl) (by kernel_rfl) (by rfl) (by intro w hSw; (try dsimp only at hSw); go_simp; try with_reducible rfl) ?_
      (try simp only [Act.put, List.setIfInBounds_toArray, List.set_cons_zero, List.set_cons_succ])
      refine tkY 7 hHeld (by rfl) (by kernel_rfl) (by kernel_rfl) (by kernel_rfl) (by rfl) (by intro w hSw; (try dsimp only at hSw); go_simp; try with_reducible rfl) ?_
      (try simp only [Act.put, List.setIfInBounds_toArray, List.set_cons_zero, List.set_cons_succ])
      refine tkY 8 hHeld (by rfl) (by kernel_rfl) (by kernel_rfl) (by kernel_rfl) (by rfl) (by intro w hSw; (try dsimp only at hSw); go_simp; try with_reducible rfl) ?_
      (try simp only [Act.put, List.setIfInBounds_toArray, List.set_cons_zero, List.set_cons_succ])
      refine tkY 9 hHeld (by rfl) (by kernel_rfl) (by kernel_rfl) (by kernel_rfl) (by rfl) (by intro w hSw; (try dsimp only at hSw); go_simp; try with_reducible rfl) ?_
      (try simp only [Act.put, List.setIfInBounds_toArray, List.set_cons_zero, List.set_cons_succ])
      refine tkY 10 hHeld (by rfl) (by kernel_rfl) (by kernel_rfl) (by kernel_rfl) (by rfl) (by intro w hSw; (try dsimp only at hSw); go_simp; try with_reducible rfl) ?_
      (try simp only [Act.put, List.setIfInBounds_toArray, List.set_cons_zero, List.set_cons_succ])
      refine tkY 11 hHeld (by rfl) (by kernel_rfl) (by kernel_rfl) (by kernel_rfl) (by rfl) (by intro w hSw; (try dsimp only at hSw); go_simp; try with_reducible rfl) ?_
      (try simp only [Act.put, List.setIfInBounds_toArray, List.set_cons_zero, List.set_cons_succ])
      refine tkY 12 hHeld (by rfl) (by kernel_rfl) (by kernel_rfl) (by kernel_rfl) (by rfl) (by intro w hSw; (try dsimp only at hSw); go_simp; try with_reducible rfl) ?_
      (try simp only [Act.put, List.setIfInBounds_toArray, List.set_cons_zero, List.set_cons_succ])
      refine tkY 13 hHeld (by rfl) (by kernel_rfl) (by kernel_rfl) (by kernel_rfl) (by rfl) (by intro w hSw; (try dsimp only at hSw); go_simp; try with_reducible rfl) ?_
      (try simp only [Act.put, List.setIfInBounds_toArray, List.set_cons_zero, List.set_cons_succ])
      refine tkY 14 hHeld (by rfl) (by kernel_rfl) (by kernel_rfl) (by kernel_rfl) (by rfl) (by intro w hSw; (try dsimp only at hSw); go_simp; try with_reducible rfl) ?_
      (try simp only [Act.put, List.setIfInBounds_toArray, List.set_cons_zero, List.set_cons_succ])
      refine wpAnyH_ready (rs := [15]) (by kernel_rfl) (by simp) ?_
      refine AllReadyH.cons (o := ?o240) ?ho240 (fun K hK => ?step240) AllReadyH.nil
      case ho240 => (simp only [List.getElem?_toArray, List.getElem?_cons_succ, List.getElem?_cons_zero]; rfl)
      go_simp
      (go_at_call 154; refine (hZ.out _).mono ?_; rintro e' w' ⟨rfl, hb'⟩)
      (try go_wp2_with fail)
      refine hK.out _ _ ?hS241 (fun hHeld' => ?rest241)
      case hS241 => ((try dsimp only); (go_split_ands; refine ⟨?_, ?_, ?_, ?_, ?_, ?_, ?_, ?_⟩ <;> first | (simp [go_sem]; done) | exact cell_below hb' (by assumption)))
      clear hK K
      (try simp only [Act.put, List.setIfInBounds_toArray, List.set_cons_zero, List.set_cons_succ])
      clear hHeld
      have hHeld := hHeld'
      clear hHeld'
      refine tkY 16 hHeld (by rfl) (by kernel_rfl) (by kernel_rfl) (by kernel_rfl) (by rfl) (by intro w hSw; (try dsimp only at hSw); go_simp; try with_reducible rfl) ?_
      (try simp only [Act.put, List.setIfInBounds_toArray, List.set_cons_zero, List.set_cons_succ])
      refine tkY 17 hHeld (by rfl) (by kernel_rfl) (by kernel_rfl) (by kernel_rfl) (by rfl) (by intro w hSw; (try dsimp only at hSw); go_simp; try with_reducible rfl) ?_
      (try simp only [Act.put, List.setIfInBounds_toArray, List.set_cons_zero, List.set_cons_succ])
      refine tkY 18 hHeld (by rfl) (by kernel_rfl) (by kernel_rfl) (by kernel_rfl) (by rfl) (by intro w hSw; (try dsimp only at hSw); go_simp; try with_reducible rfl) ?_
      (try simp only [Act.put, List.setIfInBounds_toArray, List.set_cons_zero, List.set_cons_succ])
      refine tkY 19 hHeld (by rfl) (by kernel_rfl) (by kernel_rfl) (by kernel_rfl) (by rfl) (by intro w hSw; (try dsimp only at hSw); go_simp; try with_reducible rfl) ?_
      (try simp only [Act.put, List.setIfInBounds_toArray, List.set_cons_zero, List.set_cons_succ])
      refine tkY 20 hHeld (by rfl) (by kernel_rfl) (by kernel_rfl) (by kernel_rfl) (by rfl) (by intro w hSw; (try dsimp only at hSw); go_simp; try with_reducible rfl) ?_
      (try simp only [Act.put, List.setIfInBounds_toArray, List.set_cons_zero, List.set_cons_succ])
      refine tkY 21 hHeld (by rfl) (by kernel_rfl) (by kernel_rfl) (by kernel_rfl) (by rfl) (by intro w hSw; (try dsimp only at hSw); go_simp; try with_reducible rfl) ?_
      (try simp only [Act.put, List.setIfInBounds_toArray, List.set_cons_zero, List.set_cons_succ])
      refine tkY 22 hHeld (by rfl) (by kernel_rfl) (by kernel_rfl) (by kernel_rfl) (by rfl) (by intro w hSw; (try dsimp only at hSw); go_simp; try with_reducible rfl) ?_
      (try simp only [Act.put, List.setIfInBounds_toArray, List.set_cons_zero, List.set_cons_succ])
      refine tkY 23 hHeld (by rfl) (by kernel_rfl) (by kernel_rfl) (by kernel_rfl) (by rfl) (by intro w hSw; (try dsimp only at hSw); go_simp; try with_reducible rfl) ?_
      (try simp only [Act.put, List.setIfInBounds_toArray, List.set_cons_zero, List.set_cons_succ])
      refine tkY 24 hHeld (by rfl) (by kernel_rfl) (by kernel_rfl) (by kernel_rfl) (by rfl) (by intro w hSw; (try dsimp only at hSw); go_simp; try with_reducible rfl) ?_
      (try simp only [Act.put, List.setIfInBounds_toArray, List.set_cons_zero, List.set_cons_succ])
      refine tkY 25 hHeld (by rfl) (by kernel_rfl) (by kernel_rfl) (by kernel_rfl) (by rfl) (by intro w hSw; (try dsimp only at hSw); go_simp; try with_reducible rfl) ?_
      (try simp only [Act.put, List.setIfInBounds_toArray, List.set_cons_zero, List.set_cons_succ])
      refine tkY 26 hHeld (by rfl) (by kernel_rfl) (by kernel_rfl) (by kernel_rfl) (by rfl) (by intro w hSw; (try dsimp only at hSw); go_simp; try with_reducible rfl) ?_
      (try simp only [Act.put, List.setIfInBounds_toArray, List.set_cons_zero, List.set_cons_succ])
      refine tkY 27 hHeld (by rfl) (by kernel_rfl) (by kernel_rfl) (by kernel_rfl) (by rfl) (by intro w hSw; (try dsimp only at hSw); go_simp; try with_reducible rfl) ?_
      (try simp only [Act.put, List.setIfInBounds_toArray, List.set_cons_zero, List.set_cons_succ])
      refine tkY 28 hHeld (by rfl) (by kernel_rfl) (by kernel_rfl) (by kernel_rfl) (by rfl) (by intro w hSw; (try dsimp only at hSw); go_simp; try with_reducible rfl) ?_
      (try simp only [Act.put, List.setIfInBounds_toArray, List.set_cons_zero, List.set_cons_succ])
      refine tkY 29 hHeld (by rfl) (by kernel_rfl) (by kernel_rfl) (by kernel_rfl) (by rfl) (by intro w hSw; (try dsimp only at hSw); go_simp; try with_reducible rfl) ?_
      (try simp only [Act.put, List.setIfInBounds_toArray, List.set_cons_zero, List.set_cons_succ])
      refine tkY 30 hHeld (by rfl) (by kernel_rfl) (by kernel_rfl) (by kernel_rfl) (by rfl) (by intro w hSw; (try dsimp only at hSw); go_simp; try with_reducible rfl) ?_
      (try simp only [Act.put, List.setIfInBounds_toArray, List.set_cons_zero, List.set_cons_succ])
      refine tkY 31 hHeld (by rfl) (by kernel_rfl) (by kernel_rfl) (by kernel_rfl) (by rfl) (by intro w hSw; (try dsimp only at hSw); go_simp; try with_reducible rfl) ?_
      (try simp only [Act.put, List.setIfInBounds_toArray, List.set_cons_zero, List.set_cons_succ])
      refine tkY 32 hHeld (by rfl) (by kernel_rfl) (by kernel_rfl) (by kernel_rfl) (by rfl) (by intro w hSw; (try dsimp only at hSw); go_simp; try with_reducible rfl) ?_
      (try simp only [Act.put, List.setIfInBounds_toArray, List.set_cons_zero, List.set_cons_succ])
      refine tkY 33 hHeld (by rfl) (by kernel_rfl) (by kernel_rfl) (by kernel_rfl) (by rfl) (by intro w hSw; (try dsimp only at hSw); go_simp; try with_reducible rfl) ?_
      (try simp only [Act.put, List.setIfInBounds_toArray, List.set_cons_zero, List.set_cons_succ])
      refine tkY 34 hHeld (by rfl) (by kernel_rfl) (by kernel_rfl) (by kernel_rfl) (by rfl) (by intro w hSw; (try dsimp only at hSw); go_simp; try with_reducible rfl) ?_
      (try simp only [Act.put, List.setIfInBounds_toArray, List.set_cons_zero, List.set_cons_succ])
      refine wpAnyH_done (by kernel_rfl) ?_ _
      refine NoPanic.normal ?_
      obtain ⟨y0, y1, y2, y3, y4, y5, y6, y7⟩ := hHeld
      have hBz : Below w.heap.size w w' := (B3 _ _ _).trans (hb'.mono (by simp; omega))
      have hE := hidSE (hv0.below hBz)
      clear hb' hv0
      go_wp2
      go_quiet (first | (go_at_call 142; refine Calls.quiet_of_same (hF.out _ (hE.out.below ?_)); exact below_drewN' (Below.refl _ _)))
      go_wp2
      go_ret
      exact ⟨rfl, below_drewN' hBz⟩
  case step224 =>
    go_simp
    (go_at_call 155; refine (l2Ariths_any _).mono ?_; rintro e' w' ⟨rfl, rfl⟩)
    (try go_wp2_with fail)
    refine hK.out _ _ ?hS242 (fun hHeld' => ?rest242)
    case hS242 => ((try dsimp only); (go_split_ands; refine ⟨?_, ?_, ?_, ?_, ?_, ?_, ?_, ?_⟩ <;> first | (simp [go_sem]; done) | exact cell_below hb' (by assumption)))
    clear hK K
    (try simp only [Act.put, List.setIfInBounds_toArray, List.set_cons_zero, List.set_cons_succ])
    clear hHeld
    have hHeld := hHeld'
    clear hHeld'
    refine wpAnyH_ready (rs := [2]) (by kernel_rfl) (by simp) ?_
    refine AllReadyH.cons (o := ?o243) ?ho243 (fun K hK => ?step243) AllReadyH.nil
    case ho243 => (simp only [List.getElem?_toArray, List.getElem?_cons_succ, List.getElem?_cons_zero]; rfl)
    go_simp
    refine hK.out _ _ ?hS244 (fun hHeld' => ?rest244)
    case hS244 => ((try dsimp only); (go_split_ands; refine ⟨?_, ?_, ?_, ?_, ?_, ?_, ?_, ?_⟩ <;> first | (simp [go_sem]; done) | exact cell_below hb' (by assumption)))
    clear hK K
    (try simp only [Act.put, List.setIfInBounds_toArray, List.set_cons_zero, List.set_cons_succ])
    clear hHeld
    have hHeld := hHeld'
    clear hHeld'
    refine wpAnyH_ready (rs := [3]) (by kernel_rfl) (by simp) ?_
    refine AllReadyH.cons (o := ?o245) ?ho245 (fun K hK => ?step245) AllReadyH.nil
    case ho245 => (simp only [List.getElem?_toArray, List.getElem?_cons_succ, List.getElem?_cons_zero]; rfl)
    go_simp
    refine hK.out _ _ ?hS246 (fun hHeld' => ?rest246)
    case hS246 => ((try dsimp only); (go_split_ands; refine ⟨?_, ?_, ?_, ?_, ?_, ?_, ?_, ?_⟩ <;> first | (simp [go_sem]; done) | exact cell_below hb' (by assumption)))
    clear hK K
    (try simp only [Act.put, List.setIfInBounds_toArray, List.set_cons_zero, List.set_cons_succ])
    clear hHeld
    have hHeld := hHeld'
    clear hHeld'
    refine wpAnyH_ready (rs := [5]) (by kernel_rfl) (by simp) ?_
    refine AllReadyH.cons (o := ?o247) ?ho247 (fun K hK => ?step247) AllReadyH.nil
    case ho247 => (simp only [List.getElem?_toArray, List.getElem?_cons_succ, List.getElem?_cons_zero]; rfl)
    go_simp
    (go_at_call 141; refine (hIs.out _ _ ?_).mono ?_; (first | exact ar_new _ _ _ (by simp) | exact ar_old _ _ _ _ (by simp)); rintro e' w' ⟨rfl, rfl⟩)
    (try go_wp2_with fail)
    refine hK.out _ _ ?hS248 (fun hHeld' => ?rest248)
    case hS248 => ((try dsimp only); (go_split_ands; refine ⟨?_, ?_, ?_, ?_, ?_, ?_, ?_, ?_⟩ <;> first | (simp [go_sem]; done) | exact cell_below hb' (by assumption)))
    clear hK K
    (try simp only [Act.put, List.setIfInBounds_toArray, List.set_cons_zero, List.set_cons_succ])
    clear hHeld
    have hHeld := hHeld'
    clear hHeld'
    refine tkY 6 hHeld (by rfl) (by kernel_rfl) (by kernel_rfl) (by kernel_rfl) (by rfl) (by intro w hSw; (try dsimp only at hSw); go_simp; try with_reducible rfl) ?_
    (try simp only [Act.put, List.setIfInBounds_toArray, List.set_cons_zero, List.set_cons_succ])
    refine tkY 7 hHeld (by rfl) (by kernel_rfl) (by kernel_rfl) (by kernel_rfl) (by rfl) (by intro w hSw; (try dsimp only at hSw); go_simp; try with_reducible rfl) ?_
    (try simp only [Act.put, List.setIfInBounds_toArray, List.set_cons_zero, List.set_cons_succ])
    refine tkY 8 hHeld (by rfl) (by kernel_rfl) (by kernel_rfl) (by kernel_rfl) (by rfl) (by intro w hSw; (try dsimp only at hSw); go_simp; try with_reducible rfl) ?_
    (try simp only [Act.put, List.setIfInBounds_toArray, List.set_cons_zero, List.set_cons_succ])
    refine tkY 9 hHeld (by rfl) (by kernel_rfl) (by kernel_rfl) (by kernel_rfl) (by rfl) (by intro w hSw; (try dsimp only at hSw); go_simp; try with_reducible rfl) ?_
    (try simp only [Act.put, List.setIfInBounds_toArray, List.set_cons_zero, List.set_cons_succ])
    refine tkY 10 hHeld (by rfl) (by kernel_rfl) (by kernel_rfl) (by kernel_rfl) (by rfl) (by intro w hSw; (try dsimp only at hSw); go_simp; try with_reducible rfl) ?_
    (try simp only [Act.put, List.setIfInBounds_toArray, List.set_cons_zero, List.set_cons_succ])
    refine tkY 11 hHeld (by rfl) (by kernel_rfl) (by kernel_rfl) (by kernel_rfl) (by rfl) (by intro w hSw; (try dsimp only at hSw); go_simp; try with_reducible rfl) ?_
    (try simp only [Act.put, List.setIfInBounds_toArray, List.set_cons_zero, List.set_cons_succ])
    refine tkY 12 hHeld (by rfl) (by kernel_rfl) (by kernel_rfl) (by kernel_rfl) (by rfl) (by intro w hSw; (try dsimp only at hSw); go_simp; try with_reducible rfl) ?_
    (try simp only [Act.put, List.setIfInBounds_toArray, List.set_cons_zero, List.set_cons_succ])
    refine tkY 13 hHeld (by rfl) (by kernel_rfl) (by kernel_rfl) (by kernel_rfl) (by rfl) (by intro w hSw; (try dsimp only at hSw); go_simp; try with_reducible rfl) ?_
    (try simp only [Act.put, List.setIfInBounds_toArray, List.set_cons_zero, List.set_cons_succ])
    refine tkY 14 hHeld (by rfl) (by kernel_rfl) (by kernel_rfl) (by kernel_rfl) (by rfl) (by intro w hSw; (try dsimp only at hSw); go_simp; try with_reducible rfl) ?_
    (try simp only [Act.put, List.setIfInBounds_toArray, List.set_cons_zero, List.set_cons_succ])
    refine wpAnyH_ready (rs := [15]) (by kernel_rfl) (by simp) ?_
    refine AllReadyH.cons (o := ?o249) ?ho249 (fun K hK => ?step249) AllReadyH.nil
    case ho249 => (simp only [List.getElem?_toArray, List.getElem?_cons_succ, List.getElem?_cons_zero]; rfl)
    go_simp
    (go_at_call 154; refine (hZ.out _).mono ?_; rintro e' w' ⟨rfl, hb'⟩)
    (try go_wp2_with fail)
    refine hK.out _ _ ?hS250 (fun hHeld' => ?rest250)
    case hS250 => ((try dsimp only); (go_split_ands; refine ⟨?_, ?_, ?_, ?_, ?_, ?_, ?_, ?_⟩ <;> first | (simp [go_sem]; done) | exact cell_below hb' (by assumption)))
    clear hK K
    (try simp only [Act.put, List.setIfInBounds_toArray, List.set_cons_zero, List.set_cons_succ])
    clear hHeld
    have hHeld := hHeld'
    clear hHeld'
    refine tkY 16 hHeld (by rfl) (by kernel_rfl) (by kernel_rfl) (by kernel_rfl) (by rfl) (by intro w hSw; (try dsimp only at hSw); go_simp; try with_reducible rfl) ?_
    (try simp only [Act.put, List.setIfInBounds_toArray, List.set_cons_zero, List.set_cons_succ])
    refine tkY 17 hHeld (by rfl) (by kernel_rfl) (by kernel_rfl) (by kernel_rfl) (by rfl) (by intro w hSw; (try dsimp only at hSw); go_simp; try with_reducible rfl) ?_
    (try simp only [Act.put, List.setIfInBounds_toArray, List.set_cons_zero, List.set_cons_succ])
    refine tkY 18 hHeld (by rfl) (by kernel_rfl) (by kernel_rfl) (by kernel_rfl) (by rfl) (by intro w hSw; (try dsimp only at hSw); go_simp; try with_reducible rfl) ?_
    (try simp only [Act.put, List.setIfInBounds_toArray, List.set_cons_zero, List.set_cons_succ])
    refine tkY 19 hHeld (by rfl) (by kernel_rfl) (by kernel_rfl) (by kernel_rfl) (by rfl) (by intro w hSw; (try dsimp only at hSw); go_simp; try with_reducible rfl) ?_
    (try simp only [Act.put, List.setIfInBounds_toArray, List.set_cons_zero, List.set_cons_succ])
    refine tkY 20 hHeld (by rfl) (by kernel_rfl) (by kernel_rfl) (by kernel_rfl) (by rfl) (by intro w hSw; (try dsimp only at hSw); go_simp; try with_reducible rfl) ?_
    (try simp only [Act.put, List.setIfInBounds_toArray, List.set_cons_zero, List.set_cons_succ])
    refine tkY 21 hHeld (by rfl) (by kernel_rfl) (by kernel_rfl) (by kernel_rfl) (by rfl) (by intro w hSw; (try dsimp only at hSw); go_simp; try with_reducible rfl) ?_
    (try simp only [Act.put, List.setIfInBounds_toArray, List.set_cons_zero, List.set_cons_succ])
    refine tkY 22 hHeld (by rfl) (by kernel_rfl) (by kernel_rfl) (by kernel_rfl) (by rfl) (by intro w hSw; (try dsimp only at hSw); go_simp; try with_reducible rfl) ?_
    (try simp only [Act.put, List.setIfInBounds_toArray, List.set_cons_zero, List.set_cons_succ])
    refine tkY 23 hHeld (by rfl) (by kernel_rfl) (by kernel_rfl) (by kernel_rfl) (by rfl) (by intro w hSw; (try dsimp only at hSw); go_simp; try with_reducible rfl) ?_
    (try simp only [Act.put, List.setIfInBounds_toArray, List.set_cons_zero, List.set_cons_succ])
    refine tkY 24 hHeld (by rfl) (by kernel_rfl) (by kernel_rfl) (by kernel_rfl) (by rfl) (by intro w hSw; (try dsimp only at hSw); go_simp; try with_reducible rfl) ?_
    (try simp only [Act.put, List.setIfInBounds_toArray, List.set_cons_zero, List.set_cons_succ])
    refine tkY 25 hHeld (by rfl) (by kernel_rfl) (by kernel_rfl) (by kernel_rfl) (by rfl) (by intro w hSw; (try dsimp only at hSw); go_simp; try with_reducible rfl) ?_
    (try simp only [Act.put, List.setIfInBounds_toArray, List.set_cons_zero, List.set_cons_succ])
    refine tkY 26 hHeld (by rfl) (by kernel_rfl) (by kernel_rfl) (by kernel_rfl) (by rfl) (by intro w hSw; (try dsimp only at hSw); go_simp; try with_reducible rfl) ?_
    (try simp only [Act.put, List.setIfInBounds_toArray, List.set_cons_zero, List.set_cons_succ])
    refine tkY 27 hHeld (by rfl) (by kernel_rfl) (by kernel_rfl) (by kernel_rfl) (by rfl) (by intro w hSw; (try dsimp only at hSw); go_simp; try with_reducible rfl) ?_
    (try simp only [Act.put, List.setIfInBounds_toArray, List.set_cons_zero, List.set_cons_succ])
    refine tkY 28 hHeld (by rfl) (by kernel_rfl) (by kernel_rfl) (by kernel_rfl) (by rfl) (by intro w hSw; (try dsimp only at hSw); go_simp; try with_reducible rfl) ?_
    (try simp only [Act.put, List.setIfInBounds_toArray, List.set_cons_zero, List.set_cons_succ])
    refine tkY 29 hHeld (by rfl) (by kernel_rfl) (by kernel_rfl) (by kernel_rfl) (by rfl) (by intro w hSw; (try dsimp only at hSw); go_simp; try with_reducible rfl) ?_
    (try simp only [Act.put, List.setIfInBounds_toArray, List.set_cons_zero, List.set_cons_succ])
    refine tkY 30 hHeld (by rfl) (by kernel_rfl) (by kernel_rfl) (by kernel_rfl) (by rfl) (by intro w hSw; (try dsimp only at hSw); go_simp; try with_reducible rfl) ?_
    (try simp only [Act.put, List.setIfInBounds_toArray, List.set_cons_zero, List.set_cons_succ])
    refine tkY 31 hHeld (by rfl) (by kernel_rfl) (by kernel_rfl) (by kernel_rfl) (by rfl) (by intro w hSw; (try dsimp only at hSw); go_simp; try with_reducible rfl) ?_
    (try simp only [Act.put, List.setIfInBounds_toArray, List.set_cons_zero, List.set_cons_succ])
    refine tkY 32 hHeld (by rfl) (by kernel_rfl) (by kernel_rfl) (by kernel_rfl) (by rfl) (by intro w hSw; (try dsimp only at hSw); go_simp; try with_reducible rfl) ?_
    (try simp only [Act.put, List.setIfInBounds_toArray, List.set_cons_zero, List.set_cons_succ])
    refine tkY 33 hHeld (by rfl) (by kernel_rfl) (by kernel_rfl) (by kernel_rfl) (by rfl) (by intro w hSw; (try dsimp only at hSw); go_simp; try with_reducible rfl) ?_
    (try simp only [Act.put, List.setIfInBounds_toArray, List.set_cons_zero, List.set_cons_succ])
    refine tkY 34 hHeld (by rfl) (by kernel_rfl) (by kernel_rfl) (by kernel_rfl) (by rfl) (by intro w hSw; (try dsimp only at hSw); go_simp; try with_reducible rfl) ?_
    (try simp only [Act.put, List.setIfInBounds_toArray, List.set_cons_zero, List.set_cons_succ])
    refine wpAnyH_done (by kernel_rfl) ?_ _
    refine NoPanic.normal ?_
    obtain ⟨y0, y1, y2, y3, y4, y5, y6, y7⟩ := hHeld
    have hBz : Below w.heap.size w w' := (B3 _ _ _).trans (hb'.mono (by simp; omega))
    have hE := hidSE (hv0.below hBz)
    clear hb' hv0
    go_wp2
    go_quiet (first | (go_at_call 142; refine Calls.quiet_of_same (hF.out _ (hE.out.below ?_)); exact below_drewN' (Below.refl _ _)))
    go_wp2
    go_ret
    exact ⟨rfl, below_drewN' hBz⟩
end Go.Proofs.YtognpkdgphebeaaGreat
