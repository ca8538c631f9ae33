/-
  OUR OWN TEXT. Ap1, Ap2, Ap3, Am1, In0, TyB0, Bl0, one behind the other.
-/
import Derived.Test.YtmmdlgjmplddiaaGreatGaa
import Derived.Test.YtmmdlgjmplddiaaGreatGal
import Derived.Deep.RegionHeld3
import Derived.Deep.DrawnRows
import Derived.Test.YtmmdlgjmplddiaaGreatGbk
namespace Go.Proofs.YtmmdlgjmplddiaaGreat
open Go.RowKit

theorem hidA {p : Prop} (h : p) : Hid p := h

def eqV (v o : V) : Bool := v.kind == o.kind && (v.num == o.num && decide (v.sym.toList = o.sym.toList))
def numV (v o : V) : Bool := v.kind == 0 && o.kind == 0
def meets (op : Int) (v o : V) : Bool :=
  if op == 1 then eqV v o
  else if op == 2 then !eqV v o
  else if op == 3 then numV v o && decide (v.num < o.num)
  else if op == 4 then numV v o && decide (o.num < v.num)
  else if op == 5 then numV v o && decide (v.num ≤ o.num)
  else if op == 6 then numV v o && decide (o.num ≤ v.num)
  else false

set_option maxHeartbeats 3200000 in
theorem meets_any (v o : V) (op : Int) (w : World) :
    Calls Tryz.prog 97 #[.agg #[.int .i64 v.kind, .int .i64 v.num, .string v.sym], .int .i64 op, .agg #[.int .i64 o.kind, .int .i64 o.num, .string o.sym]] w fun e w' =>
      e = .returned (.bool (meets op v o)) ∧ Below w.heap.size w w' := by
  have B2 : ∀ o o1, Below w.heap.size w ((w.alloc o).alloc o1) := fun o o1 => ((Below.refl _ _).alloc (Nat.le_refl _) _).alloc (by simp) _
  by_cases h1 : op = 1
  · subst h1
    cases k1 : (v.kind == 0) <;> cases k2 : (o.kind == 0)
    all_goals
      go_enter Tryz.func97, Tryz.ntmps97
      go_wp2
    all_goals go_ret
    all_goals exact ⟨ret_bool (by simp [meets, eqV, *]), B2 _ _⟩
  by_cases h2 : op = 2
  · subst h2
    cases k1 : (v.kind == 0) <;> cases k2 : (o.kind == 0)
    all_goals
      go_enter Tryz.func97, Tryz.ntmps97
      go_wp2
    all_goals go_ret
    all_goals exact ⟨ret_bool (by simp [meets, eqV, *]), B2 _ _⟩
  by_cases h3 : op = 3
  · subst h3
    cases k1 : (v.kind == 0) <;> cases k2 : (o.kind == 0)
    all_goals
      go_enter Tryz.func97, Tryz.ntmps97
      go_wp2
    all_goals go_ret
    all_goals exact ⟨ret_bool (by simp [meets, numV, *]), B2 _ _⟩
  by_cases h4 : op = 4
  · subst h4
    cases k1 : (v.kind == 0) <;> cases k2 : (o.kind == 0)
    all_goals
      go_enter Tryz.func97, Tryz.ntmps97
      go_wp2
    all_goals go_ret
    all_goals exact ⟨ret_bool (by simp [meets, numV, *]), B2 _ _⟩
  by_cases h5 : op = 5
  · subst h5
    cases k1 : (v.kind == 0) <;> cases k2 : (o.kind == 0)
    all_goals
      go_enter Tryz.func97, Tryz.ntmps97
      go_wp2
    all_goals go_ret
    all_goals exact ⟨ret_bool (by simp [meets, numV, *]), B2 _ _⟩
  by_cases h6 : op = 6
  · subst h6
    cases k1 : (v.kind == 0) <;> cases k2 : (o.kind == 0)
    all_goals
      go_enter Tryz.func97, Tryz.ntmps97
      go_wp2
    all_goals go_ret
    all_goals exact ⟨ret_bool (by simp [meets, numV, *]), B2 _ _⟩
  cases k1 : (v.kind == 0) <;> cases k2 : (o.kind == 0)
  all_goals
    go_enter Tryz.func97, Tryz.ntmps97
    go_wp2
  all_goals go_ret
  all_goals exact ⟨ret_bool (by simp [meets, *]), B2 _ _⟩

end Go.Proofs.YtmmdlgjmplddiaaGreat

namespace Go.Proofs.YtmmdlgjmplddiaaGreat
open Go.RowKit
attribute [local go_sem ↓] Go.wp_at_zero Go.wp_at_succ

def inR (i : Int) (n : Nat) : Bool := decide (0 ≤ i) && decide (i < (n : Int))
def getI (vs : List V) (i : Int) : Option V := if 0 ≤ i then vs[i.toNat]? else none
def tHolds (t : Tt) (vs : List V) : Bool :=
  match getI vs t.slot with
  | none => false
  | some v => if t.other = -1 then meets t.op v t.val else match getI vs t.other with
    | none => false
    | some o => meets t.op v o
def passes (a : Al) (f : F) : Bool := decide (f.cls.toList = a.cls.toList) && (decide ((f.slots.length : Int) = a.arity) && a.tests.all (fun t => tHolds t f.slots))

theorem getI_out {vs : List V} {i : Int} (h : inR i vs.length = false) : getI vs i = none := by
  unfold getI
  split
  · rename_i h0
    simp [inR, h0] at h
    exact List.getElem?_eq_none (by omega)
  · rfl
theorem getI_in {vs : List V} {i : Int} (h : inR i vs.length = true) : ∃ (s : Nat) (v : V), i = (s : Int) ∧ s < vs.length ∧ vs[s]? = some v ∧ getI vs i = some v := by
  simp only [inR, Bool.and_eq_true, decide_eq_true_eq] at h
  obtain ⟨s, rfl⟩ := Int.eq_ofNat_of_zero_le h.1
  have hs : s < vs.length := by omega
  refine ⟨s, vs[s], rfl, hs, by simp, ?_⟩
  unfold getI
  rw [if_pos h.1]
  simp

set_option maxHeartbeats 800000 in
theorem has_any (f : F) (a : Option Addr) (c : Nat) (i : Int) (w : World) :
    Calls Tryz.prog 139 #[.agg #[.int .i64 f.tag, .string f.cls, .slice a f.slots.length c], .int .i64 i] w fun e w' =>
      e = .returned (.bool (inR i f.slots.length)) ∧ Below w.heap.size w w' := by
  have B1 : ∀ o, Below w.heap.size w (w.alloc o) := fun o => (Below.refl _ _).alloc (Nat.le_refl _) _
  by_cases h0 : 0 ≤ i
  · go_enter Tryz.func139, Tryz.ntmps139
    go_wp2
    go_ret
    exact ⟨ret_bool (by simp [inR, h0]), B1 _⟩
  · go_enter Tryz.func139, Tryz.ntmps139
    go_wp2
    go_ret
    exact ⟨ret_bool (by simp [inR]; omega), B1 _⟩

set_option maxHeartbeats 3200000 in
theorem tHolds_any (t : Tt) (f : F) (a : Option Addr) (c : Nat) (w : World) (hv : ValsAt w a f.slots) :
    Calls Tryz.prog 108 #[.agg #[.int .i64 t.slot, .int .i64 t.op, .int .i64 t.other, .int .i64 t.val.kind, .int .i64 t.val.num, .string t.val.sym], .agg #[.int .i64 f.tag, .string f.cls, .slice a f.slots.length c]] w fun e w' =>
      e = .returned (.bool (tHolds t f.slots)) ∧ Below w.heap.size w w' := by
  have B2 : ∀ o o1, Below w.heap.size w ((w.alloc o).alloc o1) := fun o o1 => ((Below.refl _ _).alloc (Nat.le_refl _) _).alloc (by simp) _
  have hH1 := hidA (fun w' => has_any f a c t.slot w')
  cases hs : inR t.slot f.slots.length
  · rw [hs] at hH1
    have HN : Hid (tHolds t f.slots = false) := show tHolds t f.slots = false from by simp [tHolds, getI_out hs]
    go_enter Tryz.func108, Tryz.ntmps108
    go_wp2_with (go_at_call 139; refine (hH1.out _).mono ?_; rintro e w1 ⟨rfl, hb1⟩)
    go_ret
    exact ⟨ret_bool HN.out.symm, (B2 _ _).trans (hb1.mono (by simp; omega))⟩
  · rw [hs] at hH1
    obtain ⟨s, v, es, hsl, hvs, hg⟩ := getI_in hs
    obtain ⟨b, o, rfl, c0, c1, c2⟩ := hv s v hvs
    have z0 : (0 : Int) ≤ (s : Int) := by omega
    have z1 : (s : Int) < (f.slots.length : Int) := by omega
    by_cases ho : t.other = -1
    · have HN : Hid (tHolds t f.slots = meets t.op v t.val) := show tHolds t f.slots = _ from by simp [tHolds, hg, ho]
      have hM := hidA (fun w' => meets_any v t.val t.op w')
      rw [es, ho]
      rw [es] at hH1
      clear es hg hvs hv
      go_enter Tryz.func108, Tryz.ntmps108
      go_wp2_with (go_at_call 139; refine (hH1.out _).mono ?_; rintro e w1 ⟨rfl, hb1⟩; have p0 : w1.cell? ⟨w.heap.size, 0, none⟩ = some (.int .i64 (s : Int)) := cell_below hb1 (by simp [go_sem]); have p1 : w1.cell? ⟨w.heap.size, 1, none⟩ = some (.int .i64 t.op) := cell_below hb1 (by simp [go_sem]); have p2 : w1.cell? ⟨w.heap.size, 2, none⟩ = some (.int .i64 (-1)) := cell_below hb1 (by simp [go_sem]); have p3 : w1.cell? ⟨w.heap.size, 3, none⟩ = some (.int .i64 t.val.kind) := cell_below hb1 (by simp [go_sem]); have p4 : w1.cell? ⟨w.heap.size, 4, none⟩ = some (.int .i64 t.val.num) := cell_below hb1 (by simp [go_sem]); have p5 : w1.cell? ⟨w.heap.size, 5, none⟩ = some (.string t.val.sym) := cell_below hb1 (by simp [go_sem]); have f0 : w1.cell? ⟨w.heap.size + 1, 0, none⟩ = some (.int .i64 f.tag) := cell_below hb1 (by simp [go_sem]); have f1 : w1.cell? ⟨w.heap.size + 1, 1, none⟩ = some (.string f.cls) := cell_below hb1 (by simp [go_sem]); have f2 : w1.cell? ⟨w.heap.size + 1, 2, none⟩ = some (.slice (some ⟨b, o, none⟩) f.slots.length c) := cell_below hb1 (by simp [go_sem]); have x0 := cell_below hb1 (cell_below (B2 _ _) c0); have x1 := cell_below hb1 (cell_below (B2 _ _) c1); have x2 := cell_below hb1 (cell_below (B2 _ _) c2))
      clear c0 c1 c2 ho hs hsl hH1
      first
      | (go_region_held3 (fun w' => w'.cell? ⟨w.heap.size, 0, none⟩ = some (.int .i64 (s : Int)) ∧ w'.cell? ⟨w.heap.size, 1, none⟩ = some (.int .i64 t.op) ∧ w'.cell? ⟨w.heap.size, 2, none⟩ = some (.int .i64 (-1)) ∧ w'.cell? ⟨w.heap.size, 3, none⟩ = some (.int .i64 t.val.kind) ∧ w'.cell? ⟨w.heap.size, 4, none⟩ = some (.int .i64 t.val.num) ∧ w'.cell? ⟨w.heap.size, 5, none⟩ = some (.string t.val.sym) ∧ w'.cell? ⟨w.heap.size + 1, 0, none⟩ = some (.int .i64 f.tag) ∧ w'.cell? ⟨w.heap.size + 1, 1, none⟩ = some (.string f.cls) ∧ w'.cell? ⟨w.heap.size + 1, 2, none⟩ = some (.slice (some ⟨b, o, none⟩) f.slots.length c) ∧ w'.cell? ⟨b, o + s * 3, none⟩ = some (.int .i64 v.kind) ∧ w'.cell? ⟨b, o + s * 3 + 1, none⟩ = some (.int .i64 v.num) ∧ w'.cell? ⟨b, o + s * 3 + 2, none⟩ = some (.string v.sym)) ((go_split_ands; refine ⟨?_, ?_, ?_, ?_, ?_, ?_, ?_, ?_, ?_, ?_, ?_, ?_⟩ <;> first | (simp [*]; done) | exact cell_below hb' (by assumption))) (first | (go_at_call 97; refine (hM.out _).mono ?_; rintro e w' ⟨rfl, hb'⟩) | fail))
      | fail
      go_wp2
      go_ret
      exact ⟨ret_bool HN.out.symm, ((B2 _ _).trans (hb1.mono (by simp; omega))).drew.trans (hb'.mono (by have := (B2 default default).size; have := hb1.size; simp at *; omega))⟩
    · have hH2 := hidA (fun w' => has_any f (some ⟨b, o, none⟩) c t.other w')
      cases hs2 : inR t.other f.slots.length
      · rw [hs2] at hH2
        have HN : Hid (tHolds t f.slots = false) := show tHolds t f.slots = _ from by simp [tHolds, hg, ho, getI_out hs2]
        rw [es]
        rw [es] at hH1
        clear es hg hvs hv
        go_enter Tryz.func108, Tryz.ntmps108
        go_wp2_with (go_at_call 139; refine (hH1.out _).mono ?_; rintro e w1 ⟨rfl, hb1⟩; have p0 : w1.cell? ⟨w.heap.size, 0, none⟩ = some (.int .i64 (s : Int)) := cell_below hb1 (by simp [go_sem]); have p1 : w1.cell? ⟨w.heap.size, 1, none⟩ = some (.int .i64 t.op) := cell_below hb1 (by simp [go_sem]); have p2 : w1.cell? ⟨w.heap.size, 2, none⟩ = some (.int .i64 t.other) := cell_below hb1 (by simp [go_sem]); have p3 : w1.cell? ⟨w.heap.size, 3, none⟩ = some (.int .i64 t.val.kind) := cell_below hb1 (by simp [go_sem]); have p4 : w1.cell? ⟨w.heap.size, 4, none⟩ = some (.int .i64 t.val.num) := cell_below hb1 (by simp [go_sem]); have p5 : w1.cell? ⟨w.heap.size, 5, none⟩ = some (.string t.val.sym) := cell_below hb1 (by simp [go_sem]); have f0 : w1.cell? ⟨w.heap.size + 1, 0, none⟩ = some (.int .i64 f.tag) := cell_below hb1 (by simp [go_sem]); have f1 : w1.cell? ⟨w.heap.size + 1, 1, none⟩ = some (.string f.cls) := cell_below hb1 (by simp [go_sem]); have f2 : w1.cell? ⟨w.heap.size + 1, 2, none⟩ = some (.slice (some ⟨b, o, none⟩) f.slots.length c) := cell_below hb1 (by simp [go_sem]); have x0 := cell_below hb1 (cell_below (B2 _ _) c0); have x1 := cell_below hb1 (cell_below (B2 _ _) c1); have x2 := cell_below hb1 (cell_below (B2 _ _) c2))
        clear c0 c1 c2 ho hs hs2 hsl hH1
        refine wp_region_noPanic ?_
        refine wp_region_held_drew (S := (fun w' => w'.cell? ⟨w.heap.size, 0, none⟩ = some (.int .i64 (s : Int)) ∧ w'.cell? ⟨w.heap.size, 1, none⟩ = some (.int .i64 t.op) ∧ w'.cell? ⟨w.heap.size, 2, none⟩ = some (.int .i64 t.other) ∧ w'.cell? ⟨w.heap.size, 3, none⟩ = some (.int .i64 t.val.kind) ∧ w'.cell? ⟨w.heap.size, 4, none⟩ = some (.int .i64 t.val.num) ∧ w'.cell? ⟨w.heap.size, 5, none⟩ = some (.string t.val.sym) ∧ w'.cell? ⟨w.heap.size + 1, 0, none⟩ = some (.int .i64 f.tag) ∧ w'.cell? ⟨w.heap.size + 1, 1, none⟩ = some (.string f.cls) ∧ w'.cell? ⟨w.heap.size + 1, 2, none⟩ = some (.slice (some ⟨b, o, none⟩) f.slots.length c) ∧ w'.cell? ⟨b, o + s * 3, none⟩ = some (.int .i64 v.kind) ∧ w'.cell? ⟨b, o + s * 3 + 1, none⟩ = some (.int .i64 v.num) ∧ w'.cell? ⟨b, o + s * 3 + 2, none⟩ = some (.string v.sym))) (by kernel_rfl) ?_ (fun hHeld => ?_)
        · (try dsimp only)
          (go_split_ands; refine ⟨?_, ?_, ?_, ?_, ?_, ?_, ?_, ?_, ?_, ?_, ?_, ?_⟩ <;> first | (simp [*]; done) | exact cell_below hb' (by assumption))
        refine wpAnyH_take (i := 0) (oi := ?oi1) (v := ?v1) ?hi1 (by kernel_rfl) (by kernel_rfl) (by kernel_rfl) (fun _ _ _ h => h) (Or.inl ⟨?wd1, ?hy1⟩) hHeld ?rest1
        case hi1 => (simp only [List.getElem?_toArray, List.getElem?_cons_zero]; rfl)
        case wd1 => rfl
        case hy1 => (intro w hSw; (try dsimp only at hSw); go_simp; try with_reducible rfl)
        (try simp only [Act.put, List.setIfInBounds_toArray, List.set_cons_zero, List.set_cons_succ])
        refine wpAnyH_take (i := 1) (oi := ?oi2) (v := ?v2) ?hi2 (by kernel_rfl) (by kernel_rfl) (by kernel_rfl) (fun _ _ _ h => h) (Or.inl ⟨?wd2, ?hy2⟩) hHeld ?rest2
        case hi2 => (simp only [List.getElem?_toArray, List.getElem?_cons_succ, List.getElem?_cons_zero]; rfl)
        case wd2 => rfl
        case hy2 => (intro w hSw; (try dsimp only at hSw); go_simp; try with_reducible rfl)
        (try simp only [Act.put, List.setIfInBounds_toArray, List.set_cons_zero, List.set_cons_succ])
        refine wpAnyH_take (i := 2) (oi := ?oi3) (v := ?v3) ?hi3 (by kernel_rfl) (by kernel_rfl) (by kernel_rfl) (fun _ _ _ h => h) (Or.inl ⟨?wd3, ?hy3⟩) hHeld ?rest3
        case hi3 => (simp only [List.getElem?_toArray, List.getElem?_cons_succ, List.getElem?_cons_zero]; rfl)
        case wd3 => rfl
        case hy3 => (intro w hSw; (try dsimp only at hSw); go_simp; try with_reducible rfl)
        (try simp only [Act.put, List.setIfInBounds_toArray, List.set_cons_zero, List.set_cons_succ])
        refine wpAnyH_ready (rs := [3]) (by kernel_rfl) (by simp) ?_
        refine AllReadyH.cons (o := ?o4) ?ho4 (fun K hK => ?step4) AllReadyH.nil
        case ho4 => (simp only [List.getElem?_toArray, List.getElem?_cons_succ, List.getElem?_cons_zero]; rfl)
        go_simp
        (go_at_call 139; refine (hH2.out _).mono ?_; rintro e w' ⟨rfl, hb'⟩)
        (try go_wp2_with fail)
        refine hK.out _ _ ?hS4 (fun hHeld' => ?rest4)
        case hS4 => ((try dsimp only); (go_split_ands; refine ⟨?_, ?_, ?_, ?_, ?_, ?_, ?_, ?_, ?_, ?_, ?_, ?_⟩ <;> first | (simp [*]; done) | exact cell_below hb' (by assumption)))
        clear hK K
        (try simp only [Act.put, List.setIfInBounds_toArray, List.set_cons_zero, List.set_cons_succ])
        clear hHeld
        have hHeld := hHeld'
        clear hHeld'
        refine wpAnyH_take (i := 4) (oi := ?oi5) (v := ?v5) ?hi5 (by kernel_rfl) (by kernel_rfl) (by kernel_rfl) (fun _ _ _ h => h) (Or.inl ⟨?wd5, ?hy5⟩) hHeld ?rest5
        case hi5 => (simp only [List.getElem?_toArray, List.getElem?_cons_succ, List.getElem?_cons_zero]; rfl)
        case wd5 => rfl
        case hy5 => (intro w hSw; (try dsimp only at hSw); go_simp; try with_reducible rfl)
        (try simp only [Act.put, List.setIfInBounds_toArray, List.set_cons_zero, List.set_cons_succ])
        refine wpAnyH_take (i := 5) (oi := ?oi6) (v := undef) ?hi6 (by kernel_rfl) (by kernel_rfl) (by kernel_rfl) (fun _ _ _ h => h) (Or.inr ⟨?wd6, rfl⟩) hHeld ?rest6
        case hi6 => (simp only [List.getElem?_toArray, List.getElem?_cons_succ, List.getElem?_cons_zero]; rfl)
        case wd6 => rfl
        (try simp only [Act.put, List.setIfInBounds_toArray, List.set_cons_zero, List.set_cons_succ])
        refine wpAnyH_take (i := 6) (oi := ?oi7) (v := undef) ?hi7 (by kernel_rfl) (by kernel_rfl) (by kernel_rfl) (fun _ _ _ h => h) (Or.inr ⟨?wd7, rfl⟩) hHeld ?rest7
        case hi7 => (simp only [List.getElem?_toArray, List.getElem?_cons_succ, List.getElem?_cons_zero]; rfl)
        case wd7 => rfl
        (try simp only [Act.put, List.setIfInBounds_toArray, List.set_cons_zero, List.set_cons_succ])
        refine wpAnyH_take (i := 7) (oi := ?oi8) (v := undef) ?hi8 (by kernel_rfl) (by kernel_rfl) (by kernel_rfl) (fun _ _ _ h => h) (Or.inr ⟨?wd8, rfl⟩) hHeld ?rest8
        case hi8 => (simp only [List.getElem?_toArray, List.getElem?_cons_succ, List.getElem?_cons_zero]; rfl)
        case wd8 => rfl
        (try simp only [Act.put, List.setIfInBounds_toArray, List.set_cons_zero, List.set_cons_succ])
        refine wpAnyH_take (i := 8) (oi := ?oi9) (v := undef) ?hi9 (by kernel_rfl) (by kernel_rfl) (by kernel_rfl) (fun _ _ _ h => h) (Or.inr ⟨?wd9, rfl⟩) hHeld ?rest9
        case hi9 => (simp only [List.getElem?_toArray, List.getElem?_cons_succ, List.getElem?_cons_zero]; rfl)
        case wd9 => rfl
        (try simp only [Act.put, List.setIfInBounds_toArray, List.set_cons_zero, List.set_cons_succ])
        refine wpAnyH_take (i := 9) (oi := ?oi10) (v := undef) ?hi10 (by kernel_rfl) (by kernel_rfl) (by kernel_rfl) (fun _ _ _ h => h) (Or.inr ⟨?wd10, rfl⟩) hHeld ?rest10
        case hi10 => (simp only [List.getElem?_toArray, List.getElem?_cons_succ, List.getElem?_cons_zero]; rfl)
        case wd10 => rfl
        (try simp only [Act.put, List.setIfInBounds_toArray, List.set_cons_zero, List.set_cons_succ])
        refine wpAnyH_take (i := 10) (oi := ?oi11) (v := undef) ?hi11 (by kernel_rfl) (by kernel_rfl) (by kernel_rfl) (fun _ _ _ h => h) (Or.inr ⟨?wd11, rfl⟩) hHeld ?rest11
        case hi11 => (simp only [List.getElem?_toArray, List.getElem?_cons_succ, List.getElem?_cons_zero]; rfl)
        case wd11 => rfl
        (try simp only [Act.put, List.setIfInBounds_toArray, List.set_cons_zero, List.set_cons_succ])
        refine wpAnyH_take (i := 11) (oi := ?oi12) (v := undef) ?hi12 (by kernel_rfl) (by kernel_rfl) (by kernel_rfl) (fun _ _ _ h => h) (Or.inr ⟨?wd12, rfl⟩) hHeld ?rest12
        case hi12 => (simp only [List.getElem?_toArray, List.getElem?_cons_succ, List.getElem?_cons_zero]; rfl)
        case wd12 => rfl
        (try simp only [Act.put, List.setIfInBounds_toArray, List.set_cons_zero, List.set_cons_succ])
        refine wpAnyH_take (i := 12) (oi := ?oi13) (v := undef) ?hi13 (by kernel_rfl) (by kernel_rfl) (by kernel_rfl) (fun _ _ _ h => h) (Or.inr ⟨?wd13, rfl⟩) hHeld ?rest13
        case hi13 => (simp only [List.getElem?_toArray, List.getElem?_cons_succ, List.getElem?_cons_zero]; rfl)
        case wd13 => rfl
        (try simp only [Act.put, List.setIfInBounds_toArray, List.set_cons_zero, List.set_cons_succ])
        refine wpAnyH_take (i := 13) (oi := ?oi14) (v := undef) ?hi14 (by kernel_rfl) (by kernel_rfl) (by kernel_rfl) (fun _ _ _ h => h) (Or.inr ⟨?wd14, rfl⟩) hHeld ?rest14
        case hi14 => (simp only [List.getElem?_toArray, List.getElem?_cons_succ, List.getElem?_cons_zero]; rfl)
        case wd14 => rfl
        (try simp only [Act.put, List.setIfInBounds_toArray, List.set_cons_zero, List.set_cons_succ])
        refine wpAnyH_take (i := 14) (oi := ?oi15) (v := undef) ?hi15 (by kernel_rfl) (by kernel_rfl) (by kernel_rfl) (fun _ _ _ h => h) (Or.inr ⟨?wd15, rfl⟩) hHeld ?rest15
        case hi15 => (simp only [List.getElem?_toArray, List.getElem?_cons_succ, List.getElem?_cons_zero]; rfl)
        case wd15 => rfl
        (try simp only [Act.put, List.setIfInBounds_toArray, List.set_cons_zero, List.set_cons_succ])
        refine wpAnyH_take (i := 15) (oi := ?oi16) (v := undef) ?hi16 (by kernel_rfl) (by kernel_rfl) (by kernel_rfl) (fun _ _ _ h => h) (Or.inr ⟨?wd16, rfl⟩) hHeld ?rest16
        case hi16 => (simp only [List.getElem?_toArray, List.getElem?_cons_succ, List.getElem?_cons_zero]; rfl)
        case wd16 => rfl
        (try simp only [Act.put, List.setIfInBounds_toArray, List.set_cons_zero, List.set_cons_succ])
        refine wpAnyH_take (i := 16) (oi := ?oi17) (v := undef) ?hi17 (by kernel_rfl) (by kernel_rfl) (by kernel_rfl) (fun _ _ _ h => h) (Or.inr ⟨?wd17, rfl⟩) hHeld ?rest17
        case hi17 => (simp only [List.getElem?_toArray, List.getElem?_cons_succ, List.getElem?_cons_zero]; rfl)
        case wd17 => rfl
        (try simp only [Act.put, List.setIfInBounds_toArray, List.set_cons_zero, List.set_cons_succ])
        refine wpAnyH_take (i := 17) (oi := ?oi18) (v := undef) ?hi18 (by kernel_rfl) (by kernel_rfl) (by kernel_rfl) (fun _ _ _ h => h) (Or.inr ⟨?wd18, rfl⟩) hHeld ?rest18
        case hi18 => (simp only [List.getElem?_toArray, List.getElem?_cons_succ, List.getElem?_cons_zero]; rfl)
        case wd18 => rfl
        (try simp only [Act.put, List.setIfInBounds_toArray, List.set_cons_zero, List.set_cons_succ])
        refine wpAnyH_take (i := 18) (oi := ?oi19) (v := undef) ?hi19 (by kernel_rfl) (by kernel_rfl) (by kernel_rfl) (fun _ _ _ h => h) (Or.inr ⟨?wd19, rfl⟩) hHeld ?rest19
        case hi19 => (simp only [List.getElem?_toArray, List.getElem?_cons_succ, List.getElem?_cons_zero]; rfl)
        case wd19 => rfl
        (try simp only [Act.put, List.setIfInBounds_toArray, List.set_cons_zero, List.set_cons_succ])
        refine wpAnyH_take (i := 19) (oi := ?oi20) (v := undef) ?hi20 (by kernel_rfl) (by kernel_rfl) (by kernel_rfl) (fun _ _ _ h => h) (Or.inr ⟨?wd20, rfl⟩) hHeld ?rest20
        case hi20 => (simp only [List.getElem?_toArray, List.getElem?_cons_succ, List.getElem?_cons_zero]; rfl)
        case wd20 => rfl
        (try simp only [Act.put, List.setIfInBounds_toArray, List.set_cons_zero, List.set_cons_succ])
        refine wpAnyH_take (i := 20) (oi := ?oi21) (v := ?v21) ?hi21 (by kernel_rfl) (by kernel_rfl) (by kernel_rfl) (fun _ _ _ h => h) (Or.inl ⟨?wd21, ?hy21⟩) hHeld ?rest21
        case hi21 => (simp only [List.getElem?_toArray, List.getElem?_cons_succ, List.getElem?_cons_zero]; rfl)
        case wd21 => rfl
        case hy21 => (intro w hSw; (try dsimp only at hSw); go_simp; try with_reducible rfl)
        (try simp only [Act.put, List.setIfInBounds_toArray, List.set_cons_zero, List.set_cons_succ])
        refine wpAnyH_take (i := 21) (oi := ?oi22) (v := ?v22) ?hi22 (by kernel_rfl) (by kernel_rfl) (by kernel_rfl) (fun _ _ _ h => h) (Or.inl ⟨?wd22, ?hy22⟩) hHeld ?rest22
        case hi22 => (simp only [List.getElem?_toArray, List.getElem?_cons_succ, List.getElem?_cons_zero]; rfl)
        case wd22 => rfl
        case hy22 => (intro w hSw; (try dsimp only at hSw); go_simp; try with_reducible rfl)
        (try simp only [Act.put, List.setIfInBounds_toArray, List.set_cons_zero, List.set_cons_succ])
        refine wpAnyH_done (by kernel_rfl) ?_ _
        refine NoPanic.normal ?_
        go_wp2
        go_ret
        exact ⟨ret_bool HN.out.symm, ((B2 _ _).trans (hb1.mono (by simp; omega))).drew.trans (hb'.mono (by have := (B2 default default).size; have := hb1.size; simp at *; omega))⟩
      · rw [hs2] at hH2
        obtain ⟨r, u, er, hrl, hvr, hgr⟩ := getI_in hs2
        obtain ⟨b2, o2, e2, g0, g1, g2⟩ := hv r u hvr
        cases e2
        have HN : Hid (tHolds t f.slots = meets t.op v u) := show tHolds t f.slots = _ from by simp [tHolds, hg, ho, hgr]
        have hM := hidA (fun w' => meets_any v u t.op w')
        have y0 : (0 : Int) ≤ (r : Int) := by omega
        have y1 : (r : Int) < (f.slots.length : Int) := by omega
        have y2 : ((r : Int) == -1) = false := by simp
        rw [er] at hH2
        rw [es, er]
        rw [es] at hH1
        clear es hg hvs hv er hgr hvr ho
        go_enter Tryz.func108, Tryz.ntmps108
        go_wp2_with (go_at_call 139; refine (hH1.out _).mono ?_; rintro e w1 ⟨rfl, hb1⟩; have p0 : w1.cell? ⟨w.heap.size, 0, none⟩ = some (.int .i64 (s : Int)) := cell_below hb1 (by simp [go_sem]); have p1 : w1.cell? ⟨w.heap.size, 1, none⟩ = some (.int .i64 t.op) := cell_below hb1 (by simp [go_sem]); have p2 : w1.cell? ⟨w.heap.size, 2, none⟩ = some (.int .i64 (r : Int)) := cell_below hb1 (by simp [go_sem]); have p3 : w1.cell? ⟨w.heap.size, 3, none⟩ = some (.int .i64 t.val.kind) := cell_below hb1 (by simp [go_sem]); have p4 : w1.cell? ⟨w.heap.size, 4, none⟩ = some (.int .i64 t.val.num) := cell_below hb1 (by simp [go_sem]); have p5 : w1.cell? ⟨w.heap.size, 5, none⟩ = some (.string t.val.sym) := cell_below hb1 (by simp [go_sem]); have f0 : w1.cell? ⟨w.heap.size + 1, 0, none⟩ = some (.int .i64 f.tag) := cell_below hb1 (by simp [go_sem]); have f1 : w1.cell? ⟨w.heap.size + 1, 1, none⟩ = some (.string f.cls) := cell_below hb1 (by simp [go_sem]); have f2 : w1.cell? ⟨w.heap.size + 1, 2, none⟩ = some (.slice (some ⟨b, o, none⟩) f.slots.length c) := cell_below hb1 (by simp [go_sem]); have x0 := cell_below hb1 (cell_below (B2 _ _) c0); have x1 := cell_below hb1 (cell_below (B2 _ _) c1); have x2 := cell_below hb1 (cell_below (B2 _ _) c2); have v0 := cell_below hb1 (cell_below (B2 _ _) g0); have v1 := cell_below hb1 (cell_below (B2 _ _) g1); have v2 := cell_below hb1 (cell_below (B2 _ _) g2))
        clear c0 c1 c2 g0 g1 g2 hs hs2 hsl hrl hH1 y2
        first
        | (go_region_held3 (fun w' => w'.cell? ⟨w.heap.size, 0, none⟩ = some (.int .i64 (s : Int)) ∧ w'.cell? ⟨w.heap.size, 1, none⟩ = some (.int .i64 t.op) ∧ w'.cell? ⟨w.heap.size, 2, none⟩ = some (.int .i64 (r : Int)) ∧ w'.cell? ⟨w.heap.size, 3, none⟩ = some (.int .i64 t.val.kind) ∧ w'.cell? ⟨w.heap.size, 4, none⟩ = some (.int .i64 t.val.num) ∧ w'.cell? ⟨w.heap.size, 5, none⟩ = some (.string t.val.sym) ∧ w'.cell? ⟨w.heap.size + 1, 0, none⟩ = some (.int .i64 f.tag) ∧ w'.cell? ⟨w.heap.size + 1, 1, none⟩ = some (.string f.cls) ∧ w'.cell? ⟨w.heap.size + 1, 2, none⟩ = some (.slice (some ⟨b, o, none⟩) f.slots.length c) ∧ w'.cell? ⟨b, o + s * 3, none⟩ = some (.int .i64 v.kind) ∧ w'.cell? ⟨b, o + s * 3 + 1, none⟩ = some (.int .i64 v.num) ∧ w'.cell? ⟨b, o + s * 3 + 2, none⟩ = some (.string v.sym) ∧ w'.cell? ⟨b, o + r * 3, none⟩ = some (.int .i64 u.kind) ∧ w'.cell? ⟨b, o + r * 3 + 1, none⟩ = some (.int .i64 u.num) ∧ w'.cell? ⟨b, o + r * 3 + 2, none⟩ = some (.string u.sym)) ((go_split_ands; refine ⟨?_, ?_, ?_, ?_, ?_, ?_, ?_, ?_, ?_, ?_, ?_, ?_, ?_, ?_, ?_⟩ <;> first | (simp [*]; done) | exact cell_below hb' (by assumption))) (first | (go_at_call 139; refine (hH2.out _).mono ?_; rintro e w' ⟨rfl, hb'⟩) | (go_at_call 97; refine (hM.out _).mono ?_; rintro e w'' ⟨rfl, hb''⟩; have hb0 := hb'; have hb' := hb'') | fail))
        | fail
        go_wp2
        go_ret
        exact ⟨ret_bool HN.out.symm, (((B2 _ _).trans (hb1.mono (by simp; omega))).drew.trans (hb0.mono (by have := (B2 default default).size; have := hb1.size; simp at *; omega))).trans (hb''.mono (by have := (B2 default default).size; have := hb1.size; have := hb0.size; simp at *; omega))⟩
end Go.Proofs.YtmmdlgjmplddiaaGreat

namespace Go.Proofs.YtmmdlgjmplddiaaGreat
open Go.RowKit

theorem passes_cls {x : Al} {f : F} (h : ¬ f.cls.toList = x.cls.toList) : passes x f = false := by simp [passes, h]
theorem passes_len {x : Al} {f : F} (h : ¬ (f.slots.length : Int) = x.arity) : passes x f = false := by simp [passes, h]
theorem passes_all {x : Al} {f : F} (h : f.cls.toList = x.cls.toList) (h' : (f.slots.length : Int) = x.arity) : passes x f = x.tests.all (fun t => tHolds t f.slots) := by simp [passes, h, h']
/-- A fact in its box. -/
def FcBox (w : World) (b : Nat) (f : F) (a : Option Addr) (c : Nat) : Prop := w.cell? ⟨b, 0, none⟩ = some (.int .i64 f.tag) ∧ w.cell? ⟨b, 1, none⟩ = some (.string f.cls) ∧ w.cell? ⟨b, 2, none⟩ = some (.slice a f.slots.length c)
theorem FcBox.below {w w' : World} {b : Nat} {f : F} {a : Option Addr} {c : Nat} (h : FcBox w b f a c) (hb : Below w.heap.size w w') : FcBox w' b f a c := ⟨cell_below hb h.1, cell_below hb h.2.1, cell_below hb h.2.2⟩

set_option maxHeartbeats 1600000 in
theorem iPass_any (x : Al) (a_tests : Option Addr) (c_tests : Nat) (f : F) (a : Option Addr) (c : Nat) {q : Option Nat} (w : World) (ht : TtsAt q w a_tests x.tests) (hv : ValsAt w a f.slots) (hl : x.tests.length ≤ 1048576) :
    Calls Tryz.prog 70 #[.agg #[.string x.cls, .int .i64 x.arity, .slice a_tests x.tests.length c_tests], .agg #[.int .i64 f.tag, .string f.cls, .slice a f.slots.length c]] w fun e w' =>
      e = .returned (.bool (passes x f)) ∧ Below w.heap.size w w' := by
  have B2 : ∀ o o1, Below w.heap.size w ((w.alloc o).alloc o1) := fun o o1 => ((Below.refl _ _).alloc (Nat.le_refl _) _).alloc (by simp) _
  by_cases hc : f.cls.toList = x.cls.toList
  · by_cases hn : (f.slots.length : Int) = x.arity
    · have HG0 : Hid (passes x f = x.tests.all (fun t => tHolds t f.slots)) := passes_all hc hn
      have hn' : ((f.slots.length : Int) != x.arity) = false := by simp [hn]
      go_enter Tryz.func70, Tryz.ntmps70
      go_wp2
      clear hc hn hn'
      go_loopw [23] (fun i wr => ∃ (k : Nat), k ≤ x.tests.length ∧ i = .int .i64 k ∧ passes x f = (x.tests.drop k).all (fun t => tHolds t f.slots) ∧ FcBox wr (w.heap.size + 1) f a c ∧ Below w.heap.size w wr) (fun i _ => x.tests.length - (intOf i).toNat)
      case atStart => exact ⟨0, by omega, rfl, HG0.out, by refine ⟨?_, ?_, ?_⟩ <;> simp [go_sem], B2 _ _⟩
      case round =>
        obtain ⟨k, hk, rfl, hG, hbox, hb⟩ := hrel
        have HG := hidA hG
        have HBX := hidA hbox
        clear hG
        by_cases hkl : k < x.tests.length
        · obtain ⟨t, htk⟩ : ∃ t, x.tests[k]? = some t := ⟨x.tests[k], by simp [hkl]⟩
          obtain ⟨b, o, rfl, hq, c0, c1, c2, c3, c4, c5⟩ := (ht.below hb).get htk
          have HD : Hid (x.tests.drop k = t :: x.tests.drop (k + 1)) := drop_cons htk
          have B1 : ∀ o, Below wr.heap.size wr (wr.alloc o) := fun o => (Below.refl _ _).alloc (Nat.le_refl _) _
          have hV := hidA (fun o => (hv.below hb).below (B1 o))
          have hT := hidA (fun w' h => tHolds_any t f a c w' h)
          have q0 : ∀ o, (wr.alloc o).cell? ⟨w.heap.size + 1, 0, none⟩ = _ := fun o => cell_below (B1 o) hbox.1
          have q1 : ∀ o, (wr.alloc o).cell? ⟨w.heap.size + 1, 1, none⟩ = _ := fun o => cell_below (B1 o) hbox.2.1
          have q2 : ∀ o, (wr.alloc o).cell? ⟨w.heap.size + 1, 2, none⟩ = _ := fun o => cell_below (B1 o) hbox.2.2
          clear hbox
          cases hth : tHolds t f.slots
          all_goals
            rw [hth] at hT
            go_wp2_with (go_at_call 108; refine (hT.out _ (hV.out _)).mono ?_; rintro e w1 ⟨rfl, hb1⟩)
          · go_ret
            exact ⟨ret_bool (by rw [HG.out, HD.out, List.all_cons, hth]; rfl), hb.trans (((B1 _).trans (hb1.mono (by simp))).mono hb.size)⟩
          · go_roundw
            case rel => exact ⟨k + 1, by omega, by go_num, by rw [HG.out, HD.out, List.all_cons, hth]; rfl, HBX.out.below ((B1 _).trans (hb1.mono (by simp))), hb.trans (((B1 _).trans (hb1.mono (by simp))).mono hb.size)⟩
            case measure => simp [intOf]; omega
        · go_wp2
          go_ret
          exact ⟨ret_bool (by rw [HG.out, List.drop_eq_nil_of_le (by omega)]; rfl), hb⟩
    · have HN : Hid (passes x f = false) := passes_len hn
      have hn' : ((f.slots.length : Int) != x.arity) = true := by simp [hn]
      go_enter Tryz.func70, Tryz.ntmps70
      go_wp2
      go_ret
      exact ⟨ret_bool HN.out.symm, B2 _ _⟩
  · have HN : Hid (passes x f = false) := passes_cls hc
    go_enter Tryz.func70, Tryz.ntmps70
    go_wp2
    go_ret
    exact ⟨ret_bool HN.out.symm, B2 _ _⟩
end Go.Proofs.YtmmdlgjmplddiaaGreat

namespace Go.Proofs.YtmmdlgjmplddiaaGreat
open Go.RowKit
attribute [local go_sem ↓] Go.wp_at_zero Go.wp_at_succ

def memOf (x : Al) (fs : List F) : List Int := (fs.filter (passes x)).map F.tag
def mems (xs : List Al) (fs : List F) : List (List Int) := if gFacts fs then xs.map (fun x => memOf x fs) else []
theorem memOf_snoc {x : Al} {fs : List F} {k : Nat} {f : F} (h : fs[k]? = some f) : memOf x (fs.take (k + 1)) = memOf x (fs.take k) ++ (if passes x f then [f.tag] else []) := by
  unfold memOf
  rw [take_succ' fs k f h, List.filter_append, List.map_append]
  cases hp : passes x f <;> simp [hp]
theorem memOf_len (x : Al) (fs : List F) : (memOf x fs).length ≤ fs.length := by
  unfold memOf
  rw [List.length_map]
  exact List.length_filter_le _ _
theorem infoInt : (Tryz.prog.info? 3).map (fun i => (i.zero, i.size, i.bytes)) = some (some (.int .i64 0), 1, 8) := by kernel_rfl
theorem infoLI : (Tryz.prog.info? 39).map (fun i => (i.zero, i.size, i.bytes)) = some (some (.slice none 0 0), 1, 24) := by kernel_rfl
theorem news_allocL (w : World) (L : List Value) (t : TypeId) (b : Nat) (hb : b = w.heap.size) (ad : Addr) (e : some (⟨b, 0, none⟩ : Addr) = some ad) (j : Nat) (u : Value) (h : L[j]? = some u) : (w.alloc (.cells L.toArray t)).cell? (ad.add j) = some u := by
  subst hb
  cases e
  rw [Addr.add_mid, Nat.zero_add]
  have hb := heap_alloc_new w (.cells L.toArray t)
  simp only [World.cell?, hb]
  simpa using h
theorem ownsB {w w' : World} {base : Nat} {t : TypeId} {m : Nat} {v : Value} {n : Nat} {xs : List Value} (h : w.ownsRow base t m v n xs) (hb : Below w.heap.size w w') : w'.ownsRow base t m v n xs :=
  owns_of_block h (fun g hg => hb.block g (h.lt g hg).2)

set_option maxHeartbeats 1600000 in
theorem tags_any (x : Al) (a_tests : Option Addr) (c_tests : Nat) (a : Option Addr) (c : Nat) (fs : List F) {q : Option Nat} (w : World) (ht : TtsAt q w a_tests x.tests) (hv : FactsAt w a fs) (hl : x.tests.length ≤ 1048576) (hf : fs.length ≤ 1048576) :
    Calls Tryz.prog 34 #[.agg #[.string x.cls, .int .i64 x.arity, .slice a_tests x.tests.length c_tests], .slice a fs.length c] w fun e w' =>
      (∃ a' c', e = .returned (.slice a' (memOf x fs).length c') ∧ w'.ownsRow w.heap.size 3 1 (.slice a' (memOf x fs).length c') (memOf x fs).length (icells (memOf x fs))) ∧ Below w.heap.size w w' := by
  have B0 : ∀ o, Below w.heap.size w (w.alloc o) := fun o => (Below.refl _ _).alloc (Nat.le_refl _) _
  go_enter Tryz.func34, Tryz.ntmps34
  go_wp2
  go_loopw [5, 10] (fun v i wr => ∃ (k : Nat) (a' : Option Addr) (c' : Nat), k ≤ fs.length ∧ i = .int .i64 k ∧ v = .slice a' (memOf x (fs.take k)).length c' ∧ wr.ownsRow (w.heap.size + 1) 3 1 (.slice a' (memOf x (fs.take k)).length c') (memOf x (fs.take k)).length (icells (memOf x (fs.take k))) ∧ (wr.cell? ⟨w.heap.size, 0, none⟩ = some (.string x.cls) ∧ wr.cell? ⟨w.heap.size, 1, none⟩ = some (.int .i64 x.arity) ∧ wr.cell? ⟨w.heap.size, 2, none⟩ = some (.slice a_tests x.tests.length c_tests)) ∧ w.heap.size < wr.heap.size ∧ Below w.heap.size w wr) (fun _ i _ => fs.length - (intOf i).toNat)
  case atStart => exact ⟨0, none, 0, by omega, rfl, rfl, World.ownsRow_nil _ _ _ _, ⟨by simp [go_sem], by simp [go_sem], by simp [go_sem]⟩, by simp, B0 _⟩
  case round =>
    obtain ⟨k, a', c', hk, rfl, rfl, hown, hbx, hws, hb⟩ := hrel
    have HO := hidA hown
    have HBX := hidA hbx
    clear hown
    by_cases hkl : k < fs.length
    · obtain ⟨f, hfk⟩ : ∃ f, fs[k]? = some f := ⟨fs[k], by simp [hkl]⟩
      obtain ⟨b, o, ea, d0, d1, a2, c2, d2, hvs⟩ := (FactsAt.below hv hb) k f hfk
      subst ea
      have HS := hidA (memOf_snoc (x := x) hfk)
      have hml := memOf_len x (fs.take k)
      have hml2 : (memOf x (fs.take k)).length ≤ k := by have h : (fs.take k).length ≤ k := by simp; omega
                                                         omega
      have R1 : ∀ o, Below wr.heap.size wr (wr.alloc o) := fun o => (Below.refl _ _).alloc (Nat.le_refl _) _
      have q0 := fun o => cell_below (R1 o) hbx.1
      have q1 := fun o => cell_below (R1 o) hbx.2.1
      have q2 := fun o => cell_below (R1 o) hbx.2.2
      have hP := hidA (fun w' h1 h2 => iPass_any x a_tests c_tests f a2 c2 (q := q) w' h1 h2 hl)
      have HTA := hidA (fun o => (ht.below hb).below (R1 o))
      have HVA := hidA (fun o => hvs.below (R1 o))
      clear hbx
      cases hp : passes x f
      · rw [hp] at hP
        have HN : Hid (memOf x (fs.take (k + 1)) = memOf x (fs.take k)) := show memOf x (fs.take (k + 1)) = _ from by rw [HS.out, hp]; simp
        go_wp2_with (go_at_call 70; refine (hP.out _ (HTA.out _) (HVA.out _)).mono ?_; rintro e w1 ⟨rfl, hb1⟩)
        have hW : Below wr.heap.size wr w1 := (R1 _).trans (hb1.mono (by simp))
        go_roundw
        case rel => exact ⟨k + 1, a', c', by omega, by go_num, by rw [HN.out], by rw [HN.out]; exact ownsB HO.out hW, ⟨cell_below hW HBX.out.1, cell_below hW HBX.out.2.1, cell_below hW HBX.out.2.2⟩, Nat.lt_of_lt_of_le hws hW.size, hb.trans (hW.mono hb.size)⟩
        case measure => simp [intOf]; omega
      · rw [hp] at hP
        have HN : Hid (memOf x (fs.take (k + 1)) = memOf x (fs.take k) ++ [f.tag]) := show memOf x (fs.take (k + 1)) = _ from by rw [HS.out, hp]; simp
        go_wp2_with (first | (go_at_call 70; refine (hP.out _ (HTA.out _) (HVA.out _)).mono ?_; rintro e w1 ⟨rfl, hb1⟩; have hW : Below wr.heap.size wr w1 := (R1 _).trans (hb1.mono (by simp)); have f0 : w1.cell? ⟨wr.heap.size, 0, none⟩ = some (.int .i64 f.tag) := cell_below hb1 (by simp [go_sem])) | (at_builtin; refine wpList_append_any (by rfl) (.tmp 17) (.tmp 20) 39 (by rfl) (w.heap.size + 1) 3 _ 1 8 Tryz.underlying39 infoInt (by rfl) (by omega) _ (memOf x (fs.take k)).length _ (by rfl) ((ownsB HO.out hW).alloc _) (some ⟨_, 0, none⟩) 1 1 (by rfl) [.int .i64 f.tag] (by rfl) (fun e => by cases e) (news_allocL _ _ _ _ (by simp)) (by simp [Value.oneCell']) (by unfold maxLen; omega) (by omega) (by have := hW.size; simp; omega) ?_; intro a3 c3' w3 ho3 hg3 hl3))
        have hW3 : Below (w.heap.size + 1) wr w3 := ((hW.alloc (by have := hW.size; omega) _).mono (by omega)).grown hg3.out (by have := hW.size; simp; omega) (fun g hg => (HO.out.lt g hg).1)
        have hb3 : ∀ j, w3.cell? ⟨w.heap.size, j, none⟩ = wr.cell? ⟨w.heap.size, j, none⟩ := fun j => hW3.cell (p := ⟨w.heap.size, j, none⟩) (by simp)
        have ho3' : w3.ownsRow (w.heap.size + 1) 3 1 (.slice a3 (memOf x (fs.take (k + 1))).length c3') (memOf x (fs.take (k + 1))).length (icells (memOf x (fs.take (k + 1)))) := by
          have := ho3.out
          rw [HN.out]
          simpa [icells] using this
        have hlen : (memOf x (fs.take (k + 1))).length = (memOf x (fs.take k)).length + 1 := by rw [HN.out]; simp
        have HB3 := hidA hb3
        clear hb3
        go_roundw
        case rel => exact ⟨k + 1, a3, c3', by omega, by go_num, by rw [hlen], ho3', ⟨(HB3.out 0).trans HBX.out.1, (HB3.out 1).trans HBX.out.2.1, (HB3.out 2).trans HBX.out.2.2⟩, Nat.lt_of_lt_of_le hws hW3.size, hb.trans (hW3.mono (by omega))⟩
        case measure => simp [intOf]; omega
    · go_wp2
      go_ret
      have h := HO.out
      rw [List.take_of_length_le (by omega)] at h ⊢
      exact ⟨⟨a', c', rfl, owns_base h (by omega)⟩, hb⟩
end Go.Proofs.YtmmdlgjmplddiaaGreat

namespace Go.Proofs.YtmmdlgjmplddiaaGreat
open Go.RowKit

structure It where
  rule : Int
  tags : List Int
/-- An instantiation that was made: its data, the slice of its tags. -/
abbrev ItX := It × Value
def itCells (x : ItX) : List Value := [.int .i64 x.1.rule, x.2]
structure ItP (w : World) (base : Nat) (x : ItX) : Prop where
  ts : ∃ a c, x.2 = .slice a x.1.tags.length c
  ot : w.ownsRow base 3 1 x.2 x.1.tags.length (icells x.1.tags)
/-- Instantiations that were made: an owned row. -/
structure Iw (w : World) (b1 base : Nat) (a : Option Addr) (c : Nat) (L : List ItX) : Prop where
  row : w.ownsRow b1 46 2 (.slice a L.length c) L.length (L.flatMap itCells)
  all : ∀ x ∈ L, ItP w base x
theorem Iw.nil (w : World) (b1 base : Nat) : Iw w b1 base none 0 [] := ⟨World.ownsRow_nil _ _ _ _, fun x hx => by simp at hx⟩
theorem ItP.bel {w w' : World} {base : Nat} {x : ItX} (h : ItP w base x) (hb : Below w.heap.size w w') : ItP w' base x := ⟨h.ts, own_bel h.ot hb⟩
theorem ItP.lower {w : World} {base base' : Nat} {x : ItX} (h : ItP w base x) (hb : base' ≤ base) : ItP w base' x := ⟨h.ts, owns_base h.ot hb⟩
theorem Iw.bel {w w' : World} {b1 base : Nat} {a : Option Addr} {c : Nat} {L : List ItX} (h : Iw w b1 base a c L) (hb : Below w.heap.size w w') : Iw w' b1 base a c L := ⟨own_bel h.row hb, fun x hx => (h.all x hx).bel hb⟩
theorem Iw.lower {w : World} {b1 base b1' base' : Nat} {a : Option Addr} {c : Nat} {L : List ItX} (h : Iw w b1 base a c L) (h1 : b1' ≤ b1) (h2 : base' ≤ base) : Iw w b1' base' a c L := ⟨owns_base h.row h1, fun x hx => (h.all x hx).lower h2⟩
theorem ItP.grown {w w' : World} {base : Nat} {t : TypeId} {x : ItX} {row : Option Nat} (h : ItP w base x) (hg : w.grownBy w' row) (ht : ∀ k, row = some k → ∃ c, w.heap[k]? = some (.cells c t (0, 0))) (h1 : t ≠ 3) : ItP w' base x := ⟨h.ts, own_grown h.ot hg ht h1⟩
theorem Iw.snoc {w w' : World} {b1 base : Nat} {a a' : Option Addr} {c c' : Nat} {L : List ItX} {x : ItX} (h : Iw w b1 base a c L) (hx : ItP w base x) (ho : w'.ownsRow b1 46 2 (.slice a' (L.length + 1) c') (L.length + 1) (L.flatMap itCells ++ itCells x)) (hg : w.grownBy w' (Value.slice a L.length c).ownBlock) : Iw w' b1 base a' c' (L ++ [x]) := by
  refine ⟨by simpa using ho, fun y hy => ?_⟩
  have hy' : ItP w base y := by
    rcases List.mem_append.1 hy with hy | hy
    · exact h.all y hy
    · simp at hy
      subst hy
      exact hx
  exact hy'.grown hg (fun k hk => own_type h.row hk) (by decide)
theorem Iw.get {w : World} {b1 base : Nat} {a : Option Addr} {c : Nat} {L : List ItX} (h : Iw w b1 base a c L) {i : Nat} {x : ItX} (hi : L[i]? = some x) :
    ∃ k, a = some ⟨k, 0, none⟩ ∧ b1 ≤ k ∧ k < w.heap.size ∧ w.cell? ⟨k, i * 2, none⟩ = some (.int .i64 x.1.rule) ∧ w.cell? ⟨k, i * 2 + 1, none⟩ = some x.2 ∧ w.frozen? ⟨k, i * 2, none⟩ = false := by
  have key := fun j u (hj : (itCells x)[j]? = some u) => owns_cell h.row (flat_gen (cells := itCells) (m := 2) (fun _ => rfl) L i x j u hi hj)
  obtain ⟨k, rfl, hk, h0, f0⟩ := key 0 _ rfl
  obtain ⟨k1, e1, _, h1, _⟩ := key 1 _ rfl
  cases e1
  exact ⟨k, rfl, hk, World.block_lt_of_cell? w ⟨k, _, none⟩ h0, h0, h1, f0⟩
theorem itCells_one {w : World} {base : Nat} {x : ItX} (h : ItP w base x) : ∀ u ∈ itCells x, u.oneCell' = true := by
  obtain ⟨⟨a, c, h1⟩, _⟩ := h
  intro u hu
  simp [itCells] at hu
  rcases hu with rfl | rfl
  · rfl
  · rw [h1]; rfl
theorem infoItF : (Tryz.prog.info? 46).map (fun i => (i.zero, i.size, i.bytes)) = some (some (.agg #[.int .i64 0, .slice none 0 0]), 2, 32) := by kernel_rfl
/-- Instantiations that lie in memory. -/
def ItsAt (w : World) (a : Option Addr) (L : List It) : Prop :=
  ∀ (i : Nat) (x : It), L[i]? = some x → ∃ b o a' c', a = some ⟨b, o, none⟩ ∧ w.cell? ⟨b, o + i * 2, none⟩ = some (.int .i64 x.rule) ∧ w.cell? ⟨b, o + i * 2 + 1, none⟩ = some (.slice a' x.tags.length c') ∧ IntsAt none w a' x.tags
theorem ItsAt.below {w w' : World} {a : Option Addr} {L : List It} (h : ItsAt w a L) (hb : Below w.heap.size w w') : ItsAt w' a L := by
  intro i x hx
  obtain ⟨b, o, a', c', e, h0, h1, hi⟩ := h i x hx
  exact ⟨b, o, a', c', e, cell_below hb h0, cell_below hb h1, hi.below hb⟩
theorem Iw.at {w : World} {b1 base : Nat} {a : Option Addr} {c : Nat} {M : List ItX} (h : Iw w b1 base a c M) : ItsAt w a (M.map Prod.fst) := by
  intro i x hx
  rw [List.getElem?_map] at hx
  obtain ⟨y, hy, rfl⟩ := Option.map_eq_some_iff.1 hx
  obtain ⟨k, rfl, _, _, h0, h1, _⟩ := h.get hy
  obtain ⟨⟨a', c', e⟩, ho⟩ := h.all y (List.mem_of_getElem? hy)
  rw [e] at h1 ho
  exact ⟨k, 0, a', c', rfl, by simpa using h0, by simpa using h1, IntsAt.owns ho⟩
/-- A block of theirs. -/
def InIt (v : Value) (M : List ItX) (g : Nat) : Prop := v.ownBlock = some g ∨ ∃ x ∈ M, x.2.ownBlock = some g
theorem Iw.range {w : World} {base : Nat} {a : Option Addr} {c : Nat} {M : List ItX} (h : Iw w base base a c M) {g : Nat} (hg : InIt (.slice a M.length c) M g) : base ≤ g ∧ g < w.heap.size := by
  rcases hg with hg | ⟨x, hx, hg⟩
  · exact h.row.lt g hg
  · exact (h.all x hx).ot.lt g hg
theorem Iw.kept {w w' : World} {b1 base : Nat} {a : Option Addr} {c : Nat} {M : List ItX} (h : Iw w b1 base a c M) (hb : ∀ g, InIt (.slice a M.length c) M g → w'.heap[g]? = w.heap[g]?) : Iw w' b1 base a c M :=
  ⟨owns_of_block h.row (fun g hg => hb g (.inl hg)), fun x hx => ⟨(h.all x hx).ts, owns_of_block (h.all x hx).ot (fun g hg => hb g (.inr ⟨x, hx, hg⟩))⟩⟩
end Go.Proofs.YtmmdlgjmplddiaaGreat

namespace Go.Proofs.YtmmdlgjmplddiaaGreat
open Go.RowKit

structure Bd where
  var : ByteArray
  val : V
def Bd.R (_ : World) (r : List Value) (x : Bd) : Prop := r = [.string x.var, .int .i64 x.val.kind, .int .i64 x.val.num, .string x.val.sym]
abbrev BdsAt (q : Option Nat) (w : World) (a : Option Addr) (xs : List Bd) : Prop := RowsAt Bd.R q 220 4 w a xs
theorem BdsAt.below {q : Option Nat} {w w' : World} {a : Option Addr} {xs : List Bd} (h : BdsAt q w a xs) (hb : Below w.heap.size w w') : BdsAt q w' a xs := RowsAt.below h (fun _ _ _ h => h) hb
theorem BdsAt.bare {q : Option Nat} {w : World} {a : Option Addr} {xs : List Bd} (h : BdsAt q w a xs) : BdsAt none w a xs := RowsAt.weak h (fun b _ => Qb.bare _ _ b) (fun _ _ _ h => h)
theorem BdsAt.get {q : Option Nat} {w : World} {a : Option Addr} {xs : List Bd} {i : Nat} {x : Bd} (h : BdsAt q w a xs) (hi : xs[i]? = some x) : ∃ b o, a = some ⟨b, o, none⟩ ∧ Qb q w 220 b ∧ w.cell? ⟨b, o + i * 4, none⟩ = some (.string x.var) ∧ w.cell? ⟨b, o + i * 4 + 1, none⟩ = some (.int .i64 x.val.kind) ∧ w.cell? ⟨b, o + i * 4 + 2, none⟩ = some (.int .i64 x.val.num) ∧ w.cell? ⟨b, o + i * 4 + 3, none⟩ = some (.string x.val.sym) := by
  obtain ⟨b, o, r, h1, h2, h3, h4, h5⟩ := h i x hi
  subst h5
  exact ⟨b, o, h1, h2, h4 0 _ rfl, h4 1 _ rfl, h4 2 _ rfl, h4 3 _ rfl⟩
def Bd.le (N : Nat) (x : Bd) : Prop := x.var.size ≤ N ∧ x.val.sym.size ≤ N
end Go.Proofs.YtmmdlgjmplddiaaGreat

namespace Go.Proofs.YtmmdlgjmplddiaaGreat

def lookB (bs : List Bd) (s : ByteArray) : Option V :=
  match bs with
  | [] => none
  | b :: r => if b.var = s then some b.val else lookB r s
theorem lookB_cons (b : Bd) (r : List Bd) (s : ByteArray) : lookB (b :: r) s = if b.var = s then some b.val else lookB r s := rfl
end Go.Proofs.YtmmdlgjmplddiaaGreat
