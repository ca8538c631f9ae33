/-
  OUR OWN TEXT. A test of an Alpha, and a fact that passes it: the plain mathematics; the program's side.
-/
import Derived.Test.YtofmgaebgojonaaAp1
import Derived.Deep.RegionHeld3
import Derived.Deep.DrawnRows
namespace Go.Proofs.Ytofmgaebgojonaa
open Go.RowKit
attribute [local go_sem ↓] Go.wp_at_zero Go.wp_at_succ

def inR (i : Int) (n : Nat) : Bool := decide (0 ≤ i) && decide (i < (n : Int))
def getI (vs : List V) (i : Int) : Option V := if 0 ≤ i then vs[i.toNat]? else none
def tHolds (t : Tt) (vs : List V) : Bool :=
  match getI vs t.slot with
  | none => false
  | some v => if t.other = -1 then meets t.op v t.val else match getI vs t.other with
    | none => false
    | some o => meets t.op v o
def passes (a : Al) (f : F) : Bool := decide (f.cls.toList = a.cls.toList) && (decide ((f.slots.length : Int) = a.arity) && a.tests.all (fun t => tHolds t f.slots))

theorem getI_out {vs : List V} {i : Int} (h : inR i vs.length = false) : getI vs i = none := by
  unfold getI
  split
  · rename_i h0
    simp [inR, h0] at h
    exact List.getElem?_eq_none (by omega)
  · rfl
theorem getI_in {vs : List V} {i : Int} (h : inR i vs.length = true) : ∃ (s : Nat) (v : V), i = (s : Int) ∧ s < vs.length ∧ vs[s]? = some v ∧ getI vs i = some v := by
  simp only [inR, Bool.and_eq_true, decide_eq_true_eq] at h
  obtain ⟨s, rfl⟩ := Int.eq_ofNat_of_zero_le h.1
  have hs : s < vs.length := by omega
  refine ⟨s, vs[s], rfl, hs, by simp, ?_⟩
  unfold getI
  rw [if_pos h.1]
  simp

set_option maxHeartbeats 800000 in
theorem has_any (f : F) (a : Option Addr) (c : Nat) (i : Int) (w : World) :
    Calls Try.prog 150 #[.agg #[.int .i64 f.tag, .string f.cls, .slice a f.slots.length c], .int .i64 i] w fun e w' =>
      e = .returned (.bool (inR i f.slots.length)) ∧ Below w.heap.size w w' := by
  have B1 : ∀ o, Below w.heap.size w (w.alloc o) := fun o => (Below.refl _ _).alloc (Nat.le_refl _) _
  by_cases h0 : 0 ≤ i
  · go_enter Try.func150, Try.ntmps150
    go_wp2
    go_ret
    exact ⟨ret_bool (by simp [inR, h0]), B1 _⟩
  · go_enter Try.func150, Try.ntmps150
    go_wp2
    go_ret
    exact ⟨ret_bool (by simp [inR]; omega), B1 _⟩

set_option maxHeartbeats 3200000 in
theorem tHolds_any (t : Tt) (f : F) (a : Option Addr) (c : Nat) (w : World) (hv : ValsAt w a f.slots) :
    Calls Try.prog 103 #[.agg #[.int .i64 t.slot, .int .i64 t.op, .int .i64 t.other, .int .i64 t.val.kind, .int .i64 t.val.num, .string t.val.sym], .agg #[.int .i64 f.tag, .string f.cls, .slice a f.slots.length c]] w fun e w' =>
      e = .returned (.bool (tHolds t f.slots)) ∧ Below w.heap.size w w' := by
  have B2 : ∀ o o1, Below w.heap.size w ((w.alloc o).alloc o1) := fun o o1 => ((Below.refl _ _).alloc (Nat.le_refl _) _).alloc (by simp) _
  have hH1 := hidA (fun w' => has_any f a c t.slot w')
  cases hs : inR t.slot f.slots.length
  · rw [hs] at hH1
    have HN : Hid (tHolds t f.slots = false) := show tHolds t f.slots = false from by simp [tHolds, getI_out hs]
    go_enter Try.func103, Try.ntmps103
    go_wp2_with (go_at_call 150; refine (hH1.out _).mono ?_; rintro e w1 ⟨rfl, hb1⟩)
    go_ret
    exact ⟨ret_bool HN.out.symm, (B2 _ _).trans (hb1.mono (by simp; omega))⟩
  · rw [hs] at hH1
    obtain ⟨s, v, es, hsl, hvs, hg⟩ := getI_in hs
    obtain ⟨b, o, rfl, c0, c1, c2⟩ := hv s v hvs
    have z0 : (0 : Int) ≤ (s : Int) := by omega
    have z1 : (s : Int) < (f.slots.length : Int) := by omega
    by_cases ho : t.other = -1
    · have HN : Hid (tHolds t f.slots = meets t.op v t.val) := show tHolds t f.slots = _ from by simp [tHolds, hg, ho]
      have hM := hidA (fun w' => meets_any v t.val t.op w')
      rw [es, ho]
      rw [es] at hH1
      clear es hg hvs hv
      go_enter Try.func103, Try.ntmps103
      go_wp2_with (go_at_call 150; refine (hH1.out _).mono ?_; rintro e w1 ⟨rfl, hb1⟩; have p0 : w1.cell? ⟨w.heap.size, 0, none⟩ = some (.int .i64 (s : Int)) := cell_below hb1 (by simp [go_sem]); have p1 : w1.cell? ⟨w.heap.size, 1, none⟩ = some (.int .i64 t.op) := cell_below hb1 (by simp [go_sem]); have p2 : w1.cell? ⟨w.heap.size, 2, none⟩ = some (.int .i64 (-1)) := cell_below hb1 (by simp [go_sem]); have p3 : w1.cell? ⟨w.heap.size, 3, none⟩ = some (.int .i64 t.val.kind) := cell_below hb1 (by simp [go_sem]); have p4 : w1.cell? ⟨w.heap.size, 4, none⟩ = some (.int .i64 t.val.num) := cell_below hb1 (by simp [go_sem]); have p5 : w1.cell? ⟨w.heap.size, 5, none⟩ = some (.string t.val.sym) := cell_below hb1 (by simp [go_sem]); have f0 : w1.cell? ⟨w.heap.size + 1, 0, none⟩ = some (.int .i64 f.tag) := cell_below hb1 (by simp [go_sem]); have f1 : w1.cell? ⟨w.heap.size + 1, 1, none⟩ = some (.string f.cls) := cell_below hb1 (by simp [go_sem]); have f2 : w1.cell? ⟨w.heap.size + 1, 2, none⟩ = some (.slice (some ⟨b, o, none⟩) f.slots.length c) := cell_below hb1 (by simp [go_sem]); have x0 := cell_below hb1 (cell_below (B2 _ _) c0); have x1 := cell_below hb1 (cell_below (B2 _ _) c1); have x2 := cell_below hb1 (cell_below (B2 _ _) c2))
      clear c0 c1 c2 ho hs hsl hH1
      first
      | (go_region_held3 (fun w' => w'.cell? ⟨w.heap.size, 0, none⟩ = some (.int .i64 (s : Int)) ∧ w'.cell? ⟨w.heap.size, 1, none⟩ = some (.int .i64 t.op) ∧ w'.cell? ⟨w.heap.size, 2, none⟩ = some (.int .i64 (-1)) ∧ w'.cell? ⟨w.heap.size, 3, none⟩ = some (.int .i64 t.val.kind) ∧ w'.cell? ⟨w.heap.size, 4, none⟩ = some (.int .i64 t.val.num) ∧ w'.cell? ⟨w.heap.size, 5, none⟩ = some (.string t.val.sym) ∧ w'.cell? ⟨w.heap.size + 1, 0, none⟩ = some (.int .i64 f.tag) ∧ w'.cell? ⟨w.heap.size + 1, 1, none⟩ = some (.string f.cls) ∧ w'.cell? ⟨w.heap.size + 1, 2, none⟩ = some (.slice (some ⟨b, o, none⟩) f.slots.length c) ∧ w'.cell? ⟨b, o + s * 3, none⟩ = some (.int .i64 v.kind) ∧ w'.cell? ⟨b, o + s * 3 + 1, none⟩ = some (.int .i64 v.num) ∧ w'.cell? ⟨b, o + s * 3 + 2, none⟩ = some (.string v.sym)) ((go_split_ands; refine ⟨?_, ?_, ?_, ?_, ?_, ?_, ?_, ?_, ?_, ?_, ?_, ?_⟩ <;> first | (simp [*]; done) | exact cell_below hb' (by assumption))) (first | (go_at_call 151; refine (hM.out _).mono ?_; rintro e w' ⟨rfl, hb'⟩) | fail))
      | fail
      go_wp2
      go_ret
      exact ⟨ret_bool HN.out.symm, ((B2 _ _).trans (hb1.mono (by simp; omega))).drew.trans (hb'.mono (by have := (B2 default default).size; have := hb1.size; simp at *; omega))⟩
    · have hH2 := hidA (fun w' => has_any f (some ⟨b, o, none⟩) c t.other w')
      cases hs2 : inR t.other f.slots.length
      · rw [hs2] at hH2
        have HN : Hid (tHolds t f.slots = false) := show tHolds t f.slots = _ from by simp [tHolds, hg, ho, getI_out hs2]
        rw [es]
        rw [es] at hH1
        clear es hg hvs hv
        go_enter Try.func103, Try.ntmps103
        go_wp2_with (go_at_call 150; refine (hH1.out _).mono ?_; rintro e w1 ⟨rfl, hb1⟩; have p0 : w1.cell? ⟨w.heap.size, 0, none⟩ = some (.int .i64 (s : Int)) := cell_below hb1 (by simp [go_sem]); have p1 : w1.cell? ⟨w.heap.size, 1, none⟩ = some (.int .i64 t.op) := cell_below hb1 (by simp [go_sem]); have p2 : w1.cell? ⟨w.heap.size, 2, none⟩ = some (.int .i64 t.other) := cell_below hb1 (by simp [go_sem]); have p3 : w1.cell? ⟨w.heap.size, 3, none⟩ = some (.int .i64 t.val.kind) := cell_below hb1 (by simp [go_sem]); have p4 : w1.cell? ⟨w.heap.size, 4, none⟩ = some (.int .i64 t.val.num) := cell_below hb1 (by simp [go_sem]); have p5 : w1.cell? ⟨w.heap.size, 5, none⟩ = some (.string t.val.sym) := cell_below hb1 (by simp [go_sem]); have f0 : w1.cell? ⟨w.heap.size + 1, 0, none⟩ = some (.int .i64 f.tag) := cell_below hb1 (by simp [go_sem]); have f1 : w1.cell? ⟨w.heap.size + 1, 1, none⟩ = some (.string f.cls) := cell_below hb1 (by simp [go_sem]); have f2 : w1.cell? ⟨w.heap.size + 1, 2, none⟩ = some (.slice (some ⟨b, o, none⟩) f.slots.length c) := cell_below hb1 (by simp [go_sem]); have x0 := cell_below hb1 (cell_below (B2 _ _) c0); have x1 := cell_below hb1 (cell_below (B2 _ _) c1); have x2 := cell_below hb1 (cell_below (B2 _ _) c2))
        clear c0 c1 c2 ho hs hs2 hsl hH1
        refine wp_region_noPanic ?_
        refine wp_region_held_drew (S := (fun w' => w'.cell? ⟨w.heap.size, 0, none⟩ = some (.int .i64 (s : Int)) ∧ w'.cell? ⟨w.heap.size, 1, none⟩ = some (.int .i64 t.op) ∧ w'.cell? ⟨w.heap.size, 2, none⟩ = some (.int .i64 t.other) ∧ w'.cell? ⟨w.heap.size, 3, none⟩ = some (.int .i64 t.val.kind) ∧ w'.cell? ⟨w.heap.size, 4, none⟩ = some (.int .i64 t.val.num) ∧ w'.cell? ⟨w.heap.size, 5, none⟩ = some (.string t.val.sym) ∧ w'.cell? ⟨w.heap.size + 1, 0, none⟩ = some (.int .i64 f.tag) ∧ w'.cell? ⟨w.heap.size + 1, 1, none⟩ = some (.string f.cls) ∧ w'.cell? ⟨w.heap.size + 1, 2, none⟩ = some (.slice (some ⟨b, o, none⟩) f.slots.length c) ∧ w'.cell? ⟨b, o + s * 3, none⟩ = some (.int .i64 v.kind) ∧ w'.cell? ⟨b, o + s * 3 + 1, none⟩ = some (.int .i64 v.num) ∧ w'.cell? ⟨b, o + s * 3 + 2, none⟩ = some (.string v.sym))) (by kernel_rfl) ?_ (fun hHeld => ?_)
        · (try dsimp only)
          (go_split_ands; refine ⟨?_, ?_, ?_, ?_, ?_, ?_, ?_, ?_, ?_, ?_, ?_, ?_⟩ <;> first | (simp [*]; done) | exact cell_below hb' (by assumption))
        refine wpAnyH_take (i := 0) (oi := ?oi1) (v := ?v1) ?hi1 (by kernel_rfl) (by kernel_rfl) (by kernel_rfl) (fun _ _ _ h => h) (Or.inl ⟨?wd1, ?hy1⟩) hHeld ?rest1
        case hi1 => (simp only [List.getElem?_toArray, List.getElem?_cons_zero]; rfl)
        case wd1 => rfl
        case hy1 => (intro w hSw; (try dsimp only at hSw); go_simp; try with_reducible rfl)
        (try simp only [Act.put, List.setIfInBounds_toArray, List.set_cons_zero, List.set_cons_succ])
        refine wpAnyH_take (i := 1) (oi := ?oi2) (v := ?v2) ?hi2 (by kernel_rfl) (by kernel_rfl) (by kernel_rfl) (fun _ _ _ h => h) (Or.inl ⟨?wd2, ?hy2⟩) hHeld ?rest2
        case hi2 => (simp only [List.getElem?_toArray, List.getElem?_cons_succ, List.getElem?_cons_zero]; rfl)
        case wd2 => rfl
        case hy2 => (intro w hSw; (try dsimp only at hSw); go_simp; try with_reducible rfl)
        (try simp only [Act.put, List.setIfInBounds_toArray, List.set_cons_zero, List.set_cons_succ])
        refine wpAnyH_take (i := 2) (oi := ?oi3) (v := ?v3) ?hi3 (by kernel_rfl) (by kernel_rfl) (by kernel_rfl) (fun _ _ _ h => h) (Or.inl ⟨?wd3, ?hy3⟩) hHeld ?rest3
        case hi3 => (simp only [List.getElem?_toArray, List.getElem?_cons_succ, List.getElem?_cons_zero]; rfl)
        case wd3 => rfl
        case hy3 => (intro w hSw; (try dsimp only at hSw); go_simp; try with_reducible rfl)
        (try simp only [Act.put, List.setIfInBounds_toArray, List.set_cons_zero, List.set_cons_succ])
        refine wpAnyH_ready (rs := [3]) (by kernel_rfl) (by simp) ?_
        refine AllReadyH.cons (o := ?o4) ?ho4 (fun K hK => ?step4) AllReadyH.nil
        case ho4 => (simp only [List.getElem?_toArray, List.getElem?_cons_succ, List.getElem?_cons_zero]; rfl)
        go_simp
        (go_at_call 150; refine (hH2.out _).mono ?_; rintro e w' ⟨rfl, hb'⟩)
        (try go_wp2_with fail)
        refine hK.out _ _ ?hS4 (fun hHeld' => ?rest4)
        case hS4 => ((try dsimp only); (go_split_ands; refine ⟨?_, ?_, ?_, ?_, ?_, ?_, ?_, ?_, ?_, ?_, ?_, ?_⟩ <;> first | (simp [*]; done) | exact cell_below hb' (by assumption)))
        clear hK K
        (try simp only [Act.put, List.setIfInBounds_toArray, List.set_cons_zero, List.set_cons_succ])
        clear hHeld
        have hHeld := hHeld'
        clear hHeld'
        refine wpAnyH_take (i := 4) (oi := ?oi5) (v := ?v5) ?hi5 (by kernel_rfl) (by kernel_rfl) (by kernel_rfl) (fun _ _ _ h => h) (Or.inl ⟨?wd5, ?hy5⟩) hHeld ?rest5
        case hi5 => (simp only [List.getElem?_toArray, List.getElem?_cons_succ, List.getElem?_cons_zero]; rfl)
        case wd5 => rfl
        case hy5 => (intro w hSw; (try dsimp only at hSw); go_simp; try with_reducible rfl)
        (try simp only [Act.put, List.setIfInBounds_toArray, List.set_cons_zero, List.set_cons_succ])
        refine wpAnyH_take (i := 5) (oi := ?oi6) (v := undef) ?hi6 (by kernel_rfl) (by kernel_rfl) (by kernel_rfl) (fun _ _ _ h => h) (Or.inr ⟨?wd6, rfl⟩) hHeld ?rest6
        case hi6 => (simp only [List.getElem?_toArray, List.getElem?_cons_succ, List.getElem?_cons_zero]; rfl)
        case wd6 => rfl
        (try simp only [Act.put, List.setIfInBounds_toArray, List.set_cons_zero, List.set_cons_succ])
        refine wpAnyH_take (i := 6) (oi := ?oi7) (v := undef) ?hi7 (by kernel_rfl) (by kernel_rfl) (by kernel_rfl) (fun _ _ _ h => h) (Or.inr ⟨?wd7, rfl⟩) hHeld ?rest7
        case hi7 => (simp only [List.getElem?_toArray, List.getElem?_cons_succ, List.getElem?_cons_zero]; rfl)
        case wd7 => rfl
        (try simp only [Act.put, List.setIfInBounds_toArray, List.set_cons_zero, List.set_cons_succ])
        refine wpAnyH_take (i := 7) (oi := ?oi8) (v := undef) ?hi8 (by kernel_rfl) (by kernel_rfl) (by kernel_rfl) (fun _ _ _ h => h) (Or.inr ⟨?wd8, rfl⟩) hHeld ?rest8
        case hi8 => (simp only [List.getElem?_toArray, List.getElem?_cons_succ, List.getElem?_cons_zero]; rfl)
        case wd8 => rfl
        (try simp only [Act.put, List.setIfInBounds_toArray, List.set_cons_zero, List.set_cons_succ])
        refine wpAnyH_take (i := 8) (oi := ?oi9) (v := undef) ?hi9 (by kernel_rfl) (by kernel_rfl) (by kernel_rfl) (fun _ _ _ h => h) (Or.inr ⟨?wd9, rfl⟩) hHeld ?rest9
        case hi9 => (simp only [List.getElem?_toArray, List.getElem?_cons_succ, List.getElem?_cons_zero]; rfl)
        case wd9 => rfl
        (try simp only [Act.put, List.setIfInBounds_toArray, List.set_cons_zero, List.set_cons_succ])
        refine wpAnyH_take (i := 9) (oi := ?oi10) (v := undef) ?hi10 (by kernel_rfl) (by kernel_rfl) (by kernel_rfl) (fun _ _ _ h => h) (Or.inr ⟨?wd10, rfl⟩) hHeld ?rest10
        case hi10 => (simp only [List.getElem?_toArray, List.getElem?_cons_succ, List.getElem?_cons_zero]; rfl)
        case wd10 => rfl
        (try simp only [Act.put, List.setIfInBounds_toArray, List.set_cons_zero, List.set_cons_succ])
        refine wpAnyH_take (i := 10) (oi := ?oi11) (v := undef) ?hi11 (by kernel_rfl) (by kernel_rfl) (by kernel_rfl) (fun _ _ _ h => h) (Or.inr ⟨?wd11, rfl⟩) hHeld ?rest11
        case hi11 => (simp only [List.getElem?_toArray, List.getElem?_cons_succ, List.getElem?_cons_zero]; rfl)
        case wd11 => rfl
        (try simp only [Act.put, List.setIfInBounds_toArray, List.set_cons_zero, List.set_cons_succ])
        refine wpAnyH_take (i := 11) (oi := ?oi12) (v := undef) ?hi12 (by kernel_rfl) (by kernel_rfl) (by kernel_rfl) (fun _ _ _ h => h) (Or.inr ⟨?wd12, rfl⟩) hHeld ?rest12
        case hi12 => (simp only [List.getElem?_toArray, List.getElem?_cons_succ, List.getElem?_cons_zero]; rfl)
        case wd12 => rfl
        (try simp only [Act.put, List.setIfInBounds_toArray, List.set_cons_zero, List.set_cons_succ])
        refine wpAnyH_take (i := 12) (oi := ?oi13) (v := undef) ?hi13 (by kernel_rfl) (by kernel_rfl) (by kernel_rfl) (fun _ _ _ h => h) (Or.inr ⟨?wd13, rfl⟩) hHeld ?rest13
        case hi13 => (simp only [List.getElem?_toArray, List.getElem?_cons_succ, List.getElem?_cons_zero]; rfl)
        case wd13 => rfl
        (try simp only [Act.put, List.setIfInBounds_toArray, List.set_cons_zero, List.set_cons_succ])
        refine wpAnyH_take (i := 13) (oi := ?oi14) (v := undef) ?hi14 (by kernel_rfl) (by kernel_rfl) (by kernel_rfl) (fun _ _ _ h => h) (Or.inr ⟨?wd14, rfl⟩) hHeld ?rest14
        case hi14 => (simp only [List.getElem?_toArray, List.getElem?_cons_succ, List.getElem?_cons_zero]; rfl)
        case wd14 => rfl
        (try simp only [Act.put, List.setIfInBounds_toArray, List.set_cons_zero, List.set_cons_succ])
        refine wpAnyH_take (i := 14) (oi := ?oi15) (v := undef) ?hi15 (by kernel_rfl) (by kernel_rfl) (by kernel_rfl) (fun _ _ _ h => h) (Or.inr ⟨?wd15, rfl⟩) hHeld ?rest15
        case hi15 => (simp only [List.getElem?_toArray, List.getElem?_cons_succ, List.getElem?_cons_zero]; rfl)
        case wd15 => rfl
        (try simp only [Act.put, List.setIfInBounds_toArray, List.set_cons_zero, List.set_cons_succ])
        refine wpAnyH_take (i := 15) (oi := ?oi16) (v := undef) ?hi16 (by kernel_rfl) (by kernel_rfl) (by kernel_rfl) (fun _ _ _ h => h) (Or.inr ⟨?wd16, rfl⟩) hHeld ?rest16
        case hi16 => (simp only [List.getElem?_toArray, List.getElem?_cons_succ, List.getElem?_cons_zero]; rfl)
        case wd16 => rfl
        (try simp only [Act.put, List.setIfInBounds_toArray, List.set_cons_zero, List.set_cons_succ])
        refine wpAnyH_take (i := 16) (oi := ?oi17) (v := undef) ?hi17 (by kernel_rfl) (by kernel_rfl) (by kernel_rfl) (fun _ _ _ h => h) (Or.inr ⟨?wd17, rfl⟩) hHeld ?rest17
        case hi17 => (simp only [List.getElem?_toArray, List.getElem?_cons_succ, List.getElem?_cons_zero]; rfl)
        case wd17 => rfl
        (try simp only [Act.put, List.setIfInBounds_toArray, List.set_cons_zero, List.set_cons_succ])
        refine wpAnyH_take (i := 17) (oi := ?oi18) (v := undef) ?hi18 (by kernel_rfl) (by kernel_rfl) (by kernel_rfl) (fun _ _ _ h => h) (Or.inr ⟨?wd18, rfl⟩) hHeld ?rest18
        case hi18 => (simp only [List.getElem?_toArray, List.getElem?_cons_succ, List.getElem?_cons_zero]; rfl)
        case wd18 => rfl
        (try simp only [Act.put, List.setIfInBounds_toArray, List.set_cons_zero, List.set_cons_succ])
        refine wpAnyH_take (i := 18) (oi := ?oi19) (v := undef) ?hi19 (by kernel_rfl) (by kernel_rfl) (by kernel_rfl) (fun _ _ _ h => h) (Or.inr ⟨?wd19, rfl⟩) hHeld ?rest19
        case hi19 => (simp only [List.getElem?_toArray, List.getElem?_cons_succ, List.getElem?_cons_zero]; rfl)
        case wd19 => rfl
        (try simp only [Act.put, List.setIfInBounds_toArray, List.set_cons_zero, List.set_cons_succ])
        refine wpAnyH_take (i := 19) (oi := ?oi20) (v := undef) ?hi20 (by kernel_rfl) (by kernel_rfl) (by kernel_rfl) (fun _ _ _ h => h) (Or.inr ⟨?wd20, rfl⟩) hHeld ?rest20
        case hi20 => (simp only [List.getElem?_toArray, List.getElem?_cons_succ, List.getElem?_cons_zero]; rfl)
        case wd20 => rfl
        (try simp only [Act.put, List.setIfInBounds_toArray, List.set_cons_zero, List.set_cons_succ])
        refine wpAnyH_take (i := 20) (oi := ?oi21) (v := ?v21) ?hi21 (by kernel_rfl) (by kernel_rfl) (by kernel_rfl) (fun _ _ _ h => h) (Or.inl ⟨?wd21, ?hy21⟩) hHeld ?rest21
        case hi21 => (simp only [List.getElem?_toArray, List.getElem?_cons_succ, List.getElem?_cons_zero]; rfl)
        case wd21 => rfl
        case hy21 => (intro w hSw; (try dsimp only at hSw); go_simp; try with_reducible rfl)
        (try simp only [Act.put, List.setIfInBounds_toArray, List.set_cons_zero, List.set_cons_succ])
        refine wpAnyH_take (i := 21) (oi := ?oi22) (v := ?v22) ?hi22 (by kernel_rfl) (by kernel_rfl) (by kernel_rfl) (fun _ _ _ h => h) (Or.inl ⟨?wd22, ?hy22⟩) hHeld ?rest22
        case hi22 => (simp only [List.getElem?_toArray, List.getElem?_cons_succ, List.getElem?_cons_zero]; rfl)
        case wd22 => rfl
        case hy22 => (intro w hSw; (try dsimp only at hSw); go_simp; try with_reducible rfl)
        (try simp only [Act.put, List.setIfInBounds_toArray, List.set_cons_zero, List.set_cons_succ])
        refine wpAnyH_done (by kernel_rfl) ?_ _
        refine NoPanic.normal ?_
        go_wp2
        go_ret
        exact ⟨ret_bool HN.out.symm, ((B2 _ _).trans (hb1.mono (by simp; omega))).drew.trans (hb'.mono (by have := (B2 default default).size; have := hb1.size; simp at *; omega))⟩
      · rw [hs2] at hH2
        obtain ⟨r, u, er, hrl, hvr, hgr⟩ := getI_in hs2
        obtain ⟨b2, o2, e2, g0, g1, g2⟩ := hv r u hvr
        cases e2
        have HN : Hid (tHolds t f.slots = meets t.op v u) := show tHolds t f.slots = _ from by simp [tHolds, hg, ho, hgr]
        have hM := hidA (fun w' => meets_any v u t.op w')
        have y0 : (0 : Int) ≤ (r : Int) := by omega
        have y1 : (r : Int) < (f.slots.length : Int) := by omega
        have y2 : ((r : Int) == -1) = false := by simp
        rw [er] at hH2
        rw [es, er]
        rw [es] at hH1
        clear es hg hvs hv er hgr hvr ho
        go_enter Try.func103, Try.ntmps103
        go_wp2_with (go_at_call 150; refine (hH1.out _).mono ?_; rintro e w1 ⟨rfl, hb1⟩; have p0 : w1.cell? ⟨w.heap.size, 0, none⟩ = some (.int .i64 (s : Int)) := cell_below hb1 (by simp [go_sem]); have p1 : w1.cell? ⟨w.heap.size, 1, none⟩ = some (.int .i64 t.op) := cell_below hb1 (by simp [go_sem]); have p2 : w1.cell? ⟨w.heap.size, 2, none⟩ = some (.int .i64 (r : Int)) := cell_below hb1 (by simp [go_sem]); have p3 : w1.cell? ⟨w.heap.size, 3, none⟩ = some (.int .i64 t.val.kind) := cell_below hb1 (by simp [go_sem]); have p4 : w1.cell? ⟨w.heap.size, 4, none⟩ = some (.int .i64 t.val.num) := cell_below hb1 (by simp [go_sem]); have p5 : w1.cell? ⟨w.heap.size, 5, none⟩ = some (.string t.val.sym) := cell_below hb1 (by simp [go_sem]); have f0 : w1.cell? ⟨w.heap.size + 1, 0, none⟩ = some (.int .i64 f.tag) := cell_below hb1 (by simp [go_sem]); have f1 : w1.cell? ⟨w.heap.size + 1, 1, none⟩ = some (.string f.cls) := cell_below hb1 (by simp [go_sem]); have f2 : w1.cell? ⟨w.heap.size + 1, 2, none⟩ = some (.slice (some ⟨b, o, none⟩) f.slots.length c) := cell_below hb1 (by simp [go_sem]); have x0 := cell_below hb1 (cell_below (B2 _ _) c0); have x1 := cell_below hb1 (cell_below (B2 _ _) c1); have x2 := cell_below hb1 (cell_below (B2 _ _) c2); have v0 := cell_below hb1 (cell_below (B2 _ _) g0); have v1 := cell_below hb1 (cell_below (B2 _ _) g1); have v2 := cell_below hb1 (cell_below (B2 _ _) g2))
        clear c0 c1 c2 g0 g1 g2 hs hs2 hsl hrl hH1 y2
        first
        | (go_region_held3 (fun w' => w'.cell? ⟨w.heap.size, 0, none⟩ = some (.int .i64 (s : Int)) ∧ w'.cell? ⟨w.heap.size, 1, none⟩ = some (.int .i64 t.op) ∧ w'.cell? ⟨w.heap.size, 2, none⟩ = some (.int .i64 (r : Int)) ∧ w'.cell? ⟨w.heap.size, 3, none⟩ = some (.int .i64 t.val.kind) ∧ w'.cell? ⟨w.heap.size, 4, none⟩ = some (.int .i64 t.val.num) ∧ w'.cell? ⟨w.heap.size, 5, none⟩ = some (.string t.val.sym) ∧ w'.cell? ⟨w.heap.size + 1, 0, none⟩ = some (.int .i64 f.tag) ∧ w'.cell? ⟨w.heap.size + 1, 1, none⟩ = some (.string f.cls) ∧ w'.cell? ⟨w.heap.size + 1, 2, none⟩ = some (.slice (some ⟨b, o, none⟩) f.slots.length c) ∧ w'.cell? ⟨b, o + s * 3, none⟩ = some (.int .i64 v.kind) ∧ w'.cell? ⟨b, o + s * 3 + 1, none⟩ = some (.int .i64 v.num) ∧ w'.cell? ⟨b, o + s * 3 + 2, none⟩ = some (.string v.sym) ∧ w'.cell? ⟨b, o + r * 3, none⟩ = some (.int .i64 u.kind) ∧ w'.cell? ⟨b, o + r * 3 + 1, none⟩ = some (.int .i64 u.num) ∧ w'.cell? ⟨b, o + r * 3 + 2, none⟩ = some (.string u.sym)) ((go_split_ands; refine ⟨?_, ?_, ?_, ?_, ?_, ?_, ?_, ?_, ?_, ?_, ?_, ?_, ?_, ?_, ?_⟩ <;> first | (simp [*]; done) | exact cell_below hb' (by assumption))) (first | (go_at_call 150; refine (hH2.out _).mono ?_; rintro e w' ⟨rfl, hb'⟩) | (go_at_call 151; refine (hM.out _).mono ?_; rintro e w'' ⟨rfl, hb''⟩; have hb0 := hb'; have hb' := hb'') | fail))
        | fail
        go_wp2
        go_ret
        exact ⟨ret_bool HN.out.symm, (((B2 _ _).trans (hb1.mono (by simp; omega))).drew.trans (hb0.mono (by have := (B2 default default).size; have := hb1.size; simp at *; omega))).trans (hb''.mono (by have := (B2 default default).size; have := hb1.size; have := hb0.size; simp at *; omega))⟩
end Go.Proofs.Ytofmgaebgojonaa
