/-
  OUR OWN TEXT. TyA0, Ap1, Ap2, Ap3, one behind the other.
-/
import Derived.Test.YtognpkdgphebeaaGreatJb
import Derived.Test.YtognpkdgphebeaaGreatJa
import Derived.Test.YtognpkdgphebeaaGreatKd
import Derived.Test.YtognpkdgphebeaaGreatKe
import Derived.Test.YtognpkdgphebeaaGreatKf
import Derived.Test.YtognpkdgphebeaaGreatJc
import Derived.Deep.RegionHeld3
import Derived.Deep.DrawnRows
namespace Go.Proofs.YtognpkdgphebeaaGreat
open Go.RowKit

structure Tt where
  slot : Int
  op : Int
  other : Int
  val : V
def Tt.R (_ : World) (r : List Value) (x : Tt) : Prop := r = [.int .i64 x.slot, .int .i64 x.op, .int .i64 x.other, .int .i64 x.val.kind, .int .i64 x.val.num, .string x.val.sym]
abbrev TtsAt (q : Option Nat) (w : World) (a : Option Addr) (xs : List Tt) : Prop := RowsAt Tt.R q 226 6 w a xs
theorem TtsAt.below {q : Option Nat} {w w' : World} {a : Option Addr} {xs : List Tt} (h : TtsAt q w a xs) (hb : Below w.heap.size w w') : TtsAt q w' a xs := RowsAt.below h (fun _ _ _ h => h) hb
theorem TtsAt.low {B : Nat} {w w' : World} {a : Option Addr} {xs : List Tt} (h : TtsAt (some B) w a xs) (hb : Low B w w') : TtsAt (some B) w' a xs := RowsAt.low h (fun _ _ _ h => h) hb
theorem TtsAt.bare {q : Option Nat} {w : World} {a : Option Addr} {xs : List Tt} (h : TtsAt q w a xs) : TtsAt none w a xs := RowsAt.weak h (fun b _ => Qb.bare _ _ b) (fun _ _ _ h => h)
theorem TtsAt.get {q : Option Nat} {w : World} {a : Option Addr} {xs : List Tt} {i : Nat} {x : Tt} (h : TtsAt q w a xs) (hi : xs[i]? = some x) : ∃ b o, a = some ⟨b, o, none⟩ ∧ Qb q w 226 b ∧ w.cell? ⟨b, o + i * 6, none⟩ = some (.int .i64 x.slot) ∧ w.cell? ⟨b, o + i * 6 + 1, none⟩ = some (.int .i64 x.op) ∧ w.cell? ⟨b, o + i * 6 + 2, none⟩ = some (.int .i64 x.other) ∧ w.cell? ⟨b, o + i * 6 + 3, none⟩ = some (.int .i64 x.val.kind) ∧ w.cell? ⟨b, o + i * 6 + 4, none⟩ = some (.int .i64 x.val.num) ∧ w.cell? ⟨b, o + i * 6 + 5, none⟩ = some (.string x.val.sym) := by
  obtain ⟨b, o, r, h1, h2, h3, h4, h5⟩ := h i x hi
  subst h5
  exact ⟨b, o, h1, h2, h4 0 _ rfl, h4 1 _ rfl, h4 2 _ rfl, h4 3 _ rfl, h4 4 _ rfl, h4 5 _ rfl⟩
structure Al where
  cls : ByteArray
  arity : Int
  tests : List Tt
def Al.R (q : Option Nat) (w : World) (r : List Value) (x : Al) : Prop := ∃ a_tests c_tests, r = [.string x.cls, .int .i64 x.arity, .slice a_tests x.tests.length c_tests] ∧ TtsAt q w a_tests x.tests
abbrev AlsAt (q : Option Nat) (w : World) (a : Option Addr) (xs : List Al) : Prop := RowsAt (Al.R q) q 205 3 w a xs
theorem AlsAt.low {B : Nat} {w w' : World} {a : Option Addr} {xs : List Al} (h : AlsAt (some B) w a xs) (hb : Low B w w') : AlsAt (some B) w' a xs := RowsAt.low h (fun _ _ _ ⟨a_tests, c_tests, e, h_tests⟩ => ⟨a_tests, c_tests, e, h_tests.low hb⟩) hb
theorem AlsAt.bare {q : Option Nat} {w : World} {a : Option Addr} {xs : List Al} (h : AlsAt q w a xs) : AlsAt none w a xs := RowsAt.weak h (fun b _ => Qb.bare _ _ b) (fun _ _ _ ⟨a_tests, c_tests, e, h_tests⟩ => ⟨a_tests, c_tests, e, h_tests.bare⟩)
end Go.Proofs.YtognpkdgphebeaaGreat

namespace Go.Proofs.YtognpkdgphebeaaGreat
open Go.RowKit

theorem hidA {p : Prop} (h : p) : Hid p := h

def eqV (v o : V) : Bool := v.kind == o.kind && (v.num == o.num && decide (v.sym.toList = o.sym.toList))
def numV (v o : V) : Bool := v.kind == 0 && o.kind == 0
def meets (op : Int) (v o : V) : Bool :=
  if op == 1 then eqV v o
  else if op == 2 then !eqV v o
  else if op == 3 then numV v o && decide (v.num < o.num)
  else if op == 4 then numV v o && decide (o.num < v.num)
  else if op == 5 then numV v o && decide (v.num ≤ o.num)
  else if op == 6 then numV v o && decide (o.num ≤ v.num)
  else false

set_option maxHeartbeats 3200000 in
theorem meets_any (v o : V) (op : Int) (w : World) :
    Calls Tryz.prog 116 #[.agg #[.int .i64 v.kind, .int .i64 v.num, .string v.sym], .int .i64 op, .agg #[.int .i64 o.kind, .int .i64 o.num, .string o.sym]] w fun e w' =>
      e = .returned (.bool (meets op v o)) ∧ Below w.heap.size w w' := by
  have B2 : ∀ o o1, Below w.heap.size w ((w.alloc o).alloc o1) := fun o o1 => ((Below.refl _ _).alloc (Nat.le_refl _) _).alloc (by simp) _
  by_cases h1 : op = 1
  · subst h1
    cases k1 : (v.kind == 0) <;> cases k2 : (o.kind == 0)
    all_goals
      go_enter Tryz.func116, Tryz.ntmps116
      go_wp2
    all_goals go_ret
    all_goals exact ⟨ret_bool (by simp [meets, eqV, *]), B2 _ _⟩
  by_cases h2 : op = 2
  · subst h2
    cases k1 : (v.kind == 0) <;> cases k2 : (o.kind == 0)
    all_goals
      go_enter Tryz.func116, Tryz.ntmps116
      go_wp2
    all_goals go_ret
    all_goals exact ⟨ret_bool (by simp [meets, eqV, *]), B2 _ _⟩
  by_cases h3 : op = 3
  · subst h3
    cases k1 : (v.kind == 0) <;> cases k2 : (o.kind == 0)
    all_goals
      go_enter Tryz.func116, Tryz.ntmps116
      go_wp2
    all_goals go_ret
    all_goals exact ⟨ret_bool (by simp [meets, numV, *]), B2 _ _⟩
  by_cases h4 : op = 4
  · subst h4
    cases k1 : (v.kind == 0) <;> cases k2 : (o.kind == 0)
    all_goals
      go_enter Tryz.func116, Tryz.ntmps116
      go_wp2
    all_goals go_ret
    all_goals exact ⟨ret_bool (by simp [meets, numV, *]), B2 _ _⟩
  by_cases h5 : op = 5
  · subst h5
    cases k1 : (v.kind == 0) <;> cases k2 : (o.kind == 0)
    all_goals
      go_enter Tryz.func116, Tryz.ntmps116
      go_wp2
    all_goals go_ret
    all_goals exact ⟨ret_bool (by simp [meets, numV, *]), B2 _ _⟩
  by_cases h6 : op = 6
  · subst h6
    cases k1 : (v.kind == 0) <;> cases k2 : (o.kind == 0)
    all_goals
      go_enter Tryz.func116, Tryz.ntmps116
      go_wp2
    all_goals go_ret
    all_goals exact ⟨ret_bool (by simp [meets, numV, *]), B2 _ _⟩
  cases k1 : (v.kind == 0) <;> cases k2 : (o.kind == 0)
  all_goals
    go_enter Tryz.func116, Tryz.ntmps116
    go_wp2
  all_goals go_ret
  all_goals exact ⟨ret_bool (by simp [meets, *]), B2 _ _⟩

end Go.Proofs.YtognpkdgphebeaaGreat

namespace Go.Proofs.YtognpkdgphebeaaGreat
open Go.RowKit
attribute [local go_sem ↓] Go.wp_at_zero Go.wp_at_succ

def inR (i : Int) (n : Nat) : Bool := decide (0 ≤ i) && decide (i < (n : Int))
def getI (vs : List V) (i : Int) : Option V := if 0 ≤ i then vs[i.toNat]? else none
def tHolds (t : Tt) (vs : List V) : Bool :=
  match getI vs t.slot with
  | none => false
  | some v => if t.other = -1 then meets t.op v t.val else match getI vs t.other with
    | none => false
    | some o => meets t.op v o
def passes (a : Al) (f : F) : Bool := decide (f.cls.toList = a.cls.toList) && (decide ((f.slots.length : Int) = a.arity) && a.tests.all (fun t => tHolds t f.slots))

theorem getI_out {vs : List V} {i : Int} (h : inR i vs.length = false) : getI vs i = none := by
  unfold getI
  split
  · rename_i h0
    simp [inR, h0] at h
    exact List.getElem?_eq_none (by omega)
  · rfl
theorem getI_in {vs : List V} {i : Int} (h : inR i vs.length = true) : ∃ (s : Nat) (v : V), i = (s : Int) ∧ s < vs.length ∧ vs[s]? = some v ∧ getI vs i = some v := by
  simp only [inR, Bool.and_eq_true, decide_eq_true_eq] at h
  obtain ⟨s, rfl⟩ := Int.eq_ofNat_of_zero_le h.1
  have hs : s < vs.length := by omega
  refine ⟨s, vs[s], rfl, hs, by simp, ?_⟩
  unfold getI
  rw [if_pos h.1]
  simp

set_option maxHeartbeats 800000 in
theorem has_any (f : F) (a : Option Addr) (c : Nat) (i : Int) (w : World) :
    Calls Tryz.prog 157 #[.agg #[.int .i64 f.tag, .string f.cls, .slice a f.slots.length c], .int .i64 i] w fun e w' =>
      e = .returned (.bool (inR i f.slots.length)) ∧ Below w.heap.size w w' := by
  have B1 : ∀ o, Below w.heap.size w (w.alloc o) := fun o => (Below.refl _ _).alloc (Nat.le_refl _) _
  by_cases h0 : 0 ≤ i
  · go_enter Tryz.func157, Tryz.ntmps157
    go_wp2
    go_ret
    exact ⟨ret_bool (by simp [inR, h0]), B1 _⟩
  · go_enter Tryz.func157, Tryz.ntmps157
    go_wp2
    go_ret
    exact ⟨ret_bool (by simp [inR]; omega), B1 _⟩

set_option maxHeartbeats 3200000 in
theorem tHolds_any (t : Tt) (f : F) (a : Option Addr) (c : Nat) (w : World) (hv : ValsAt w a f.slots) :
    Calls Tryz.prog 143 #[.agg #[.int .i64 t.slot, .int .i64 t.op, .int .i64 t.other, .int .i64 t.val.kind, .int .i64 t.val.num, .string t.val.sym], .agg #[.int .i64 f.tag, .string f.cls, .slice a f.slots.length c]] w fun e w' =>
      e = .returned (.bool (tHolds t f.slots)) ∧ Below w.heap.size w w' := by
  have B2 : ∀ o o1, Below w.heap.size w ((w.alloc o).alloc o1) := fun o o1 => ((Below.refl _ _).alloc (Nat.le_refl _) _).alloc (by simp) _
  have hH1 := hidA (fun w' => has_any f a c t.slot w')
  cases hs : inR t.slot f.slots.length
  · rw [hs] at hH1
    have HN : Hid (tHolds t f.slots = false) := show tHolds t f.slots = false from by simp [tHolds, getI_out hs]
    go_enter Tryz.func143, Tryz.ntmps143
    go_wp2_with (go_at_call 157; refine (hH1.out _).mono ?_; rintro e w1 ⟨rfl, hb1⟩)
    go_ret
    exact ⟨ret_bool HN.out.symm, (B2 _ _).trans (hb1.mono (by simp; omega))⟩
  · rw [hs] at hH1
    obtain ⟨s, v, es, hsl, hvs, hg⟩ := getI_in hs
    obtain ⟨b, o, rfl, c0, c1, c2⟩ := hv s v hvs
    have z0 : (0 : Int) ≤ (s : Int) := by omega
    have z1 : (s : Int) < (f.slots.length : Int) := by omega
    by_cases ho : t.other = -1
    · have HN : Hid (tHolds t f.slots = meets t.op v t.val) := show tHolds t f.slots = _ from by simp [tHolds, hg, ho]
      have hM := hidA (fun w' => meets_any v t.val t.op w')
      rw [es, ho]
      rw [es] at hH1
      clear es hg hvs hv
      go_enter Tryz.func143, Tryz.ntmps143
      go_wp2_with (go_at_call 157; refine (hH1.out _).mono ?_; rintro e w1 ⟨rfl, hb1⟩; have p0 : w1.cell? ⟨w.heap.size, 0, none⟩ = some (.int .i64 (s : Int)) := cell_below hb1 (by simp [go_sem]); have p1 : w1.cell? ⟨w.heap.size, 1, none⟩ = some (.int .i64 t.op) := cell_below hb1 (by simp [go_sem]); have p2 : w1.cell? ⟨w.heap.size, 2, none⟩ = some (.int .i64 (-1)) := cell_below hb1 (by simp [go_sem]); have p3 : w1.cell? ⟨w.heap.size, 3, none⟩ = some (.int .i64 t.val.kind) := cell_below hb1 (by simp [go_sem]); have p4 : w1.cell? ⟨w.heap.size, 4, none⟩ = some (.int .i64 t.val.num) := cell_below hb1 (by simp [go_sem]); have p5 : w1.cell? ⟨w.heap.size, 5, none⟩ = some (.string t.val.sym) := cell_below hb1 (by simp [go_sem]); have f0 : w1.cell? ⟨w.heap.size + 1, 0, none⟩ = some (.int .i64 f.tag) := cell_below hb1 (by simp [go_sem]); have f1 : w1.cell? ⟨w.heap.size + 1, 1, none⟩ = some (.string f.cls) := cell_below hb1 (by simp [go_sem]); have f2 : w1.cell? ⟨w.heap.size + 1, 2, none⟩ = some (.slice (some ⟨b, o, none⟩) f.slots.length c) := cell_below hb1 (by simp [go_sem]); have x0 := cell_below hb1 (cell_below (B2 _ _) c0); have x1 := cell_below hb1 (cell_below (B2 _ _) c1); have x2 := cell_below hb1 (cell_below (B2 _ _) c2))
      clear c0 c1 c2 ho hs hsl hH1
      first
      | (go_region_held3 (fun w' => w'.cell? ⟨w.heap.size, 0, none⟩ = some (.int .i64 (s : Int)) ∧ w'.cell? ⟨w.heap.size, 1, none⟩ = some (.int .i64 t.op) ∧ w'.cell? ⟨w.heap.size, 2, none⟩ = some (.int .i64 (-1)) ∧ w'.cell? ⟨w.heap.size, 3, none⟩ = some (.int .i64 t.val.kind) ∧ w'.cell? ⟨w.heap.size, 4, none⟩ = some (.int .i64 t.val.num) ∧ w'.cell? ⟨w.heap.size, 5, none⟩ = some (.string t.val.sym) ∧ w'.cell? ⟨w.heap.size + 1, 0, none⟩ = some (.int .i64 f.tag) ∧ w'.cell? ⟨w.heap.size + 1, 1, none⟩ = some (.string f.cls) ∧ w'.cell? ⟨w.heap.size + 1, 2, none⟩ = some (.slice (some ⟨b, o, none⟩) f.slots.length c) ∧ w'.cell? ⟨b, o + s * 3, none⟩ = some (.int .i64 v.kind) ∧ w'.cell? ⟨b, o + s * 3 + 1, none⟩ = some (.int .i64 v.num) ∧ w'.cell? ⟨b, o + s * 3 + 2, none⟩ = some (.string v.sym)) ((go_split_ands; refine ⟨?_, ?_, ?_, ?_, ?_, ?_, ?_, ?_, ?_, ?_, ?_, ?_⟩ <;> first | (simp [*]; done) | exact cell_below hb' (by assumption))) (first | (go_at_call 116; refine (hM.out _).mono ?_; rintro e w' ⟨rfl, hb'⟩) | fail))
      | fail
      go_wp2
      go_ret
      exact ⟨ret_bool HN.out.symm, ((B2 _ _).trans (hb1.mono (by simp; omega))).drew.trans (hb'.mono (by have := (B2 default default).size; have := hb1.size; simp at *; omega))⟩
    · have hH2 := hidA (fun w' => has_any f (some ⟨b, o, none⟩) c t.other w')
      cases hs2 : inR t.other f.slots.length
      · rw [hs2] at hH2
        have HN : Hid (tHolds t f.slots = false) := show tHolds t f.slots = _ from by simp [tHolds, hg, ho, getI_out hs2]
        rw [es]
        rw [es] at hH1
        clear es hg hvs hv
        go_enter Tryz.func143, Tryz.ntmps143
        go_wp2_with (go_at_call 157; refine (hH1.out _).mono ?_; rintro e w1 ⟨rfl, hb1⟩; have p0 : w1.cell? ⟨w.heap.size, 0, none⟩ = some (.int .i64 (s : Int)) := cell_below hb1 (by simp [go_sem]); have p1 : w1.cell? ⟨w.heap.size, 1, none⟩ = some (.int .i64 t.op) := cell_below hb1 (by simp [go_sem]); have p2 : w1.cell? ⟨w.heap.size, 2, none⟩ = some (.int .i64 t.other) := cell_below hb1 (by simp [go_sem]); have p3 : w1.cell? ⟨w.heap.size, 3, none⟩ = some (.int .i64 t.val.kind) := cell_below hb1 (by simp [go_sem]); have p4 : w1.cell? ⟨w.heap.size, 4, none⟩ = some (.int .i64 t.val.num) := cell_below hb1 (by simp [go_sem]); have p5 : w1.cell? ⟨w.heap.size, 5, none⟩ = some (.string t.val.sym) := cell_below hb1 (by simp [go_sem]); have f0 : w1.cell? ⟨w.heap.size + 1, 0, none⟩ = some (.int .i64 f.tag) := cell_below hb1 (by simp [go_sem]); have f1 : w1.cell? ⟨w.heap.size + 1, 1, none⟩ = some (.string f.cls) := cell_below hb1 (by simp [go_sem]); have f2 : w1.cell? ⟨w.heap.size + 1, 2, none⟩ = some (.slice (some ⟨b, o, none⟩) f.slots.length c) := cell_below hb1 (by simp [go_sem]); have x0 := cell_below hb1 (cell_below (B2 _ _) c0); have x1 := cell_below hb1 (cell_below (B2 _ _) c1); have x2 := cell_below hb1 (cell_below (B2 _ _) c2))
        clear c0 c1 c2 ho hs hs2 hsl hH1
        refine wp_region_noPanic ?_
        refine wp_region_held_drew (S := (fun w' => w'.cell? ⟨w.heap.size, 0, none⟩ = some (.int .i64 (s : Int)) ∧ w'.cell? ⟨w.heap.size, 1, none⟩ = some (.int .i64 t.op) ∧ w'.cell? ⟨w.heap.size, 2, none⟩ = some (.int .i64 t.other) ∧ w'.cell? ⟨w.heap.size, 3, none⟩ = some (.int .i64 t.val.kind) ∧ w'.cell? ⟨w.heap.size, 4, none⟩ = some (.int .i64 t.val.num) ∧ w'.cell? ⟨w.heap.size, 5, none⟩ = some (.string t.val.sym) ∧ w'.cell? ⟨w.heap.size + 1, 0, none⟩ = some (.int .i64 f.tag) ∧ w'.cell? ⟨w.heap.size + 1, 1, none⟩ = some (.string f.cls) ∧ w'.cell? ⟨w.heap.size + 1, 2, none⟩ = some (.slice (some ⟨b, o, none⟩) f.slots.length c) ∧ w'.cell? ⟨b, o + s * 3, none⟩ = some (.int .i64 v.kind) ∧ w'.cell? ⟨b, o + s * 3 + 1, none⟩ = some (.int .i64 v.num) ∧ w'.cell? ⟨b, o + s * 3 + 2, none⟩ = some (.string v.sym))) (by kernel_rfl) ?_ (fun hHeld => ?_)
        · (try dsimp only)
          (go_split_ands; refine ⟨?_, ?_, ?_, ?_, ?_, ?_, ?_, ?_, ?_, ?_, ?_, ?_⟩ <;> first | (simp [*]; done) | exact cell_below hb' (by assumption))
        refine wpAnyH_take (i := 0) (oi := ?oi1) (v := ?v1) ?hi1 (by kernel_rfl) (by kernel_rfl) (by kernel_rfl) (fun _ _ _ h => h) (Or.inl ⟨?wd1, ?hy1⟩) hHeld ?rest1
        case hi1 => (simp only [List.getElem?_toArray, List.getElem?_cons_zero]; rfl)
        case wd1 => rfl
        case hy1 => (intro w hSw; (try dsimp only at hSw); go_simp; try with_reducible rfl)
        (try simp only [Act.put, List.setIfInBounds_toArray, List.set_cons_zero, List.set_cons_succ])
        refine wpAnyH_take (i := 1) (oi := ?oi2) (v := ?v2) ?hi2 (by kernel_rfl) (by kernel_rfl) (by kernel_rfl) (fun _ _ _ h => h) (Or.inl ⟨?wd2, ?hy2⟩) hHeld ?rest2
        case hi2 => (simp only [List.getElem?_toArray, List.getElem?_cons_succ, List.getElem?_cons_zero]; rfl)
        case wd2 => rfl
        case hy2 => (intro w hSw; (try dsimp only at hSw); go_simp; try with_reducible rfl)
        (try simp only [Act.put, List.setIfInBounds_toArray, List.set_cons_zero, List.set_cons_succ])
        refine wpAnyH_take (i := 2) (oi := ?oi3) (v := ?v3) ?hi3 (by kernel_rfl) (by kernel_rfl) (by kernel_rfl) (fun _ _ _ h => h) (Or.inl ⟨?wd3, ?hy3⟩) hHeld ?rest3
        case hi3 => (simp only [List.getElem?_toArray, List.getElem?_cons_succ, List.getElem?_cons_zero]; rfl)
        case wd3 => rfl
        case hy3 => (intro w hSw; (try dsimp only at hSw); go_simp; try with_reducible rfl)
        (try simp only [Act.put, List.setIfInBounds_toArray, List.set_cons_zero, List.set_cons_succ])
        refine wpAnyH_ready (rs := [3]) (by kernel_rfl) (by simp) ?_
        refine AllReadyH.cons (o := ?o4) ?ho4 (fun K hK => ?step4) AllReadyH.nil
        case ho4 => (simp only [List.getElem?_toArray, List.getElem?_cons_succ, List.getElem?_cons_zero]; rfl)
        go_simp
        (go_at_call 157; refine (hH2.out _).mono ?_; rintro e w' ⟨rfl, hb'⟩)
        (try go_wp2_with fail)
        refine hK.out _ _ ?hS4 (fun hHeld' => ?rest4)
        case hS4 => ((try dsimp only); (go_split_ands; refine ⟨?_, ?_, ?_, ?_, ?_, ?_, ?_, ?_, ?_, ?_, ?_, ?_⟩ <;> first | (simp [*]; done) | exact cell_below hb' (by assumption)))
        clear hK K
        (try simp only [Act.put, List.setIfInBounds_toArray, List.set_cons_zero, List.set_cons_succ])
        clear hHeld
        have hHeld := hHeld'
        clear hHeld'
        refine wpAnyH_take (i := 4) (oi := ?oi5) (v := ?v5) ?hi5 (by kernel_rfl) (by kernel_rfl) (by kernel_rfl) (fun _ _ _ h => h) (Or.inl ⟨?wd5, ?hy5⟩) hHeld ?rest5
        case hi5 => (simp only [List.getElem?_toArray, List.getElem?_cons_succ, List.getElem?_cons_zero]; rfl)
        case wd5 => rfl
        case hy5 => (intro w hSw; (try dsimp only at hSw); go_simp; try with_reducible rfl)
        (try simp only [Act.put, List.setIfInBounds_toArray, List.set_cons_zero, List.set_cons_succ])
        refine wpAnyH_take (i := 5) (oi := ?oi6) (v := undef) ?hi6 (by kernel_rfl) (by kernel_rfl) (by kernel_rfl) (fun _ _ _ h => h) (Or.inr ⟨?wd6, rfl⟩) hHeld ?rest6
        case hi6 => (simp only [List.getElem?_toArray, List.getElem?_cons_succ, List.getElem?_cons_zero]; rfl)
        case wd6 => rfl
        (try simp only [Act.put, List.setIfInBounds_toArray, List.set_cons_zero, List.set_cons_succ])
        refine wpAnyH_take (i := 6) (oi := ?oi7) (v := undef) ?hi7 (by kernel_rfl) (by kernel_rfl) (by kernel_rfl) (fun _ _ _ h => h) (Or.inr ⟨?wd7, rfl⟩) hHeld ?rest7
        case hi7 => (simp only [List.getElem?_toArray, List.getElem?_cons_succ, List.getElem?_cons_zero]; rfl)
        case wd7 => rfl
        (try simp only [Act.put, List.setIfInBounds_toArray, List.set_cons_zero, List.set_cons_succ])
        refine wpAnyH_take (i := 7) (oi := ?oi8) (v := undef) ?hi8 (by kernel_rfl) (by kernel_rfl) (by kernel_rfl) (fun _ _ _ h => h) (Or.inr ⟨?wd8, rfl⟩) hHeld ?rest8
        case hi8 => (simp only [List.getElem?_toArray, List.getElem?_cons_succ, List.getElem?_cons_zero]; rfl)
        case wd8 => rfl
        (try simp only [Act.put, List.setIfInBounds_toArray, List.set_cons_zero, List.set_cons_succ])
        refine wpAnyH_take (i := 8) (oi := ?oi9) (v := undef) ?hi9 (by kernel_rfl) (by kernel_rfl) (by kernel_rfl) (fun _ _ _ h => h) (Or.inr ⟨?wd9, rfl⟩) hHeld ?rest9
        case hi9 => (simp only [List.getElem?_toArray, List.getElem?_cons_succ, List.getElem?_cons_zero]; rfl)
        case wd9 => rfl
        (try simp only [Act.put, List.setIfInBounds_toArray, List.set_cons_zero, List.set_cons_succ])
        refine wpAnyH_take (i := 9) (oi := ?oi10) (v := undef) ?hi10 (by kernel_rfl) (by kernel_rfl) (by kernel_rfl) (fun _ _ _ h => h) (Or.inr ⟨?wd10, rfl⟩) hHeld ?rest10
        case hi10 => (simp only [List.getElem?_toArray, List.getElem?_cons_succ, List.getElem?_cons_zero]; rfl)
        case wd10 => rfl
        (try simp only [Act.put, List.setIfInBounds_toArray, List.set_cons_zero, List.set_cons_succ])
        refine wpAnyH_take (i := 10) (oi := ?oi11) (v := undef) ?hi11 (by kernel_rfl) (by kernel_rfl) (by kernel_rfl) (fun _ _ _ h => h) (Or.inr ⟨?wd11, rfl⟩) hHeld ?rest11
        case hi11 => (simp only [List.getElem?_toArray, List.getElem?_cons_succ, List.getElem?_cons_zero]; rfl)
        case wd11 => rfl
        (try simp only [Act.put, List.setIfInBounds_toArray, List.set_cons_zero, List.set_cons_succ])
        refine wpAnyH_take (i := 11) (oi := ?oi12) (v := undef) ?hi12 (by kernel_rfl) (by kernel_rfl) (by kernel_rfl) (fun _ _ _ h => h) (Or.inr ⟨?wd12, rfl⟩) hHeld ?rest12
        case hi12 => (simp only [List.getElem?_toArray, List.getElem?_cons_succ, List.getElem?_cons_zero]; rfl)
        case wd12 => rfl
        (try simp only [Act.put, List.setIfInBounds_toArray, List.set_cons_zero, List.set_cons_succ])
        refine wpAnyH_take (i := 12) (oi := ?oi13) (v := undef) ?hi13 (by kernel_rfl) (by kernel_rfl) (by kernel_rfl) (fun _ _ _ h => h) (Or.inr ⟨?wd13, rfl⟩) hHeld ?rest13
        case hi13 => (simp only [List.getElem?_toArray, List.getElem?_cons_succ, List.getElem?_cons_zero]; rfl)
        case wd13 => rfl
        (try simp only [Act.put, List.setIfInBounds_toArray, List.set_cons_zero, List.set_cons_succ])
        refine wpAnyH_take (i := 13) (oi := ?oi14) (v := undef) ?hi14 (by kernel_rfl) (by kernel_rfl) (by kernel_rfl) (fun _ _ _ h => h) (Or.inr ⟨?wd14, rfl⟩) hHeld ?rest14
        case hi14 => (simp only [List.getElem?_toArray, List.getElem?_cons_succ, List.getElem?_cons_zero]; rfl)
        case wd14 => rfl
        (try simp only [Act.put, List.setIfInBounds_toArray, List.set_cons_zero, List.set_cons_succ])
        refine wpAnyH_take (i := 14) (oi := ?oi15) (v := undef) ?hi15 (by kernel_rfl) (by kernel_rfl) (by kernel_rfl) (fun _ _ _ h => h) (Or.inr ⟨?wd15, rfl⟩) hHeld ?rest15
        case hi15 => (simp only [List.getElem?_toArray, List.getElem?_cons_succ, List.getElem?_cons_zero]; rfl)
        case wd15 => rfl
        (try simp only [Act.put, List.setIfInBounds_toArray, List.set_cons_zero, List.set_cons_succ])
        refine wpAnyH_take (i := 15) (oi := ?oi16) (v := undef) ?hi16 (by kernel_rfl) (by kernel_rfl) (by kernel_rfl) (fun _ _ _ h => h) (Or.inr ⟨?wd16, rfl⟩) hHeld ?rest16
        case hi16 => (simp only [List.getElem?_toArray, List.getElem?_cons_succ, List.getElem?_cons_zero]; rfl)
        case wd16 => rfl
        (try simp only [Act.put, List.setIfInBounds_toArray, List.set_cons_zero, List.set_cons_succ])
        refine wpAnyH_take (i := 16) (oi := ?oi17) (v := undef) ?hi17 (by kernel_rfl) (by kernel_rfl) (by kernel_rfl) (fun _ _ _ h => h) (Or.inr ⟨?wd17, rfl⟩) hHeld ?rest17
        case hi17 => (simp only [List.getElem?_toArray, List.getElem?_cons_succ, List.getElem?_cons_zero]; rfl)
        case wd17 => rfl
        (try simp only [Act.put, List.setIfInBounds_toArray, List.set_cons_zero, List.set_cons_succ])
        refine wpAnyH_take (i := 17) (oi := ?oi18) (v := undef) ?hi18 (by kernel_rfl) (by kernel_rfl) (by kernel_rfl) (fun _ _ _ h => h) (Or.inr ⟨?wd18, rfl⟩) hHeld ?rest18
        case hi18 => (simp only [List.getElem?_toArray, List.getElem?_cons_succ, List.getElem?_cons_zero]; rfl)
        case wd18 => rfl
        (try simp only [Act.put, List.setIfInBounds_toArray, List.set_cons_zero, List.set_cons_succ])
        refine wpAnyH_take (i := 18) (oi := ?oi19) (v := undef) ?hi19 (by kernel_rfl) (by kernel_rfl) (by kernel_rfl) (fun _ _ _ h => h) (Or.inr ⟨?wd19, rfl⟩) hHeld ?rest19
        case hi19 => (simp only [List.getElem?_toArray, List.getElem?_cons_succ, List.getElem?_cons_zero]; rfl)
        case wd19 => rfl
        (try simp only [Act.put, List.setIfInBounds_toArray, List.set_cons_zero, List.set_cons_succ])
        refine wpAnyH_take (i := 19) (oi := ?oi20) (v := undef) ?hi20 (by kernel_rfl) (by kernel_rfl) (by kernel_rfl) (fun _ _ _ h => h) (Or.inr ⟨?wd20, rfl⟩) hHeld ?rest20
        case hi20 => (simp only [List.getElem?_toArray, List.getElem?_cons_succ, List.getElem?_cons_zero]; rfl)
        case wd20 => rfl
        (try simp only [Act.put, List.setIfInBounds_toArray, List.set_cons_zero, List.set_cons_succ])
        refine wpAnyH_take (i := 20) (oi := ?oi21) (v := ?v21) ?hi21 (by kernel_rfl) (by kernel_rfl) (by kernel_rfl) (fun _ _ _ h => h) (Or.inl ⟨?wd21, ?hy21⟩) hHeld ?rest21
        case hi21 => (simp only [List.getElem?_toArray, List.getElem?_cons_succ, List.getElem?_cons_zero]; rfl)
        case wd21 => rfl
        case hy21 => (intro w hSw; (try dsimp only at hSw); go_simp; try with_reducible rfl)
        (try simp only [Act.put, List.setIfInBounds_toArray, List.set_cons_zero, List.set_cons_succ])
        refine wpAnyH_take (i := 21) (oi := ?oi22) (v := ?v22) ?hi22 (by kernel_rfl) (by kernel_rfl) (by kernel_rfl) (fun _ _ _ h => h) (Or.inl ⟨?wd22, ?hy22⟩) hHeld ?rest22
        case hi22 => (simp only [List.getElem?_toArray, List.getElem?_cons_succ, List.getElem?_cons_zero]; rfl)
        case wd22 => rfl
        case hy22 => (intro w hSw; (try dsimp only at hSw); go_simp; try with_reducible rfl)
        (try simp only [Act.put, List.setIfInBounds_toArray, List.set_cons_zero, List.set_cons_succ])
        refine wpAnyH_done (by kernel_rfl) ?_ _
        refine NoPanic.normal ?_
        go_wp2
        go_ret
        exact ⟨ret_bool HN.out.symm, ((B2 _ _).trans (hb1.mono (by simp; omega))).drew.trans (hb'.mono (by have := (B2 default default).size; have := hb1.size; simp at *; omega))⟩
      · rw [hs2] at hH2
        obtain ⟨r, u, er, hrl, hvr, hgr⟩ := getI_in hs2
        obtain ⟨b2, o2, e2, g0, g1, g2⟩ := hv r u hvr
        cases e2
        have HN : Hid (tHolds t f.slots = meets t.op v u) := show tHolds t f.slots = _ from by simp [tHolds, hg, ho, hgr]
        have hM := hidA (fun w' => meets_any v u t.op w')
        have y0 : (0 : Int) ≤ (r : Int) := by omega
        have y1 : (r : Int) < (f.slots.length : Int) := by omega
        have y2 : ((r : Int) == -1) = false := by simp
        rw [er] at hH2
        rw [es, er]
        rw [es] at hH1
        clear es hg hvs hv er hgr hvr ho
        go_enter Tryz.func143, Tryz.ntmps143
        go_wp2_with (go_at_call 157; refine (hH1.out _).mono ?_; rintro e w1 ⟨rfl, hb1⟩; have p0 : w1.cell? ⟨w.heap.size, 0, none⟩ = some (.int .i64 (s : Int)) := cell_below hb1 (by simp [go_sem]); have p1 : w1.cell? ⟨w.heap.size, 1, none⟩ = some (.int .i64 t.op) := cell_below hb1 (by simp [go_sem]); have p2 : w1.cell? ⟨w.heap.size, 2, none⟩ = some (.int .i64 (r : Int)) := cell_below hb1 (by simp [go_sem]); have p3 : w1.cell? ⟨w.heap.size, 3, none⟩ = some (.int .i64 t.val.kind) := cell_below hb1 (by simp [go_sem]); have p4 : w1.cell? ⟨w.heap.size, 4, none⟩ = some (.int .i64 t.val.num) := cell_below hb1 (by simp [go_sem]); have p5 : w1.cell? ⟨w.heap.size, 5, none⟩ = some (.string t.val.sym) := cell_below hb1 (by simp [go_sem]); have f0 : w1.cell? ⟨w.heap.size + 1, 0, none⟩ = some (.int .i64 f.tag) := cell_below hb1 (by simp [go_sem]); have f1 : w1.cell? ⟨w.heap.size + 1, 1, none⟩ = some (.string f.cls) := cell_below hb1 (by simp [go_sem]); have f2 : w1.cell? ⟨w.heap.size + 1, 2, none⟩ = some (.slice (some ⟨b, o, none⟩) f.slots.length c) := cell_below hb1 (by simp [go_sem]); have x0 := cell_below hb1 (cell_below (B2 _ _) c0); have x1 := cell_below hb1 (cell_below (B2 _ _) c1); have x2 := cell_below hb1 (cell_below (B2 _ _) c2); have v0 := cell_below hb1 (cell_below (B2 _ _) g0); have v1 := cell_below hb1 (cell_below (B2 _ _) g1); have v2 := cell_below hb1 (cell_below (B2 _ _) g2))
        clear c0 c1 c2 g0 g1 g2 hs hs2 hsl hrl hH1 y2
        first
        | (go_region_held3 (fun w' => w'.cell? ⟨w.heap.size, 0, none⟩ = some (.int .i64 (s : Int)) ∧ w'.cell? ⟨w.heap.size, 1, none⟩ = some (.int .i64 t.op) ∧ w'.cell? ⟨w.heap.size, 2, none⟩ = some (.int .i64 (r : Int)) ∧ w'.cell? ⟨w.heap.size, 3, none⟩ = some (.int .i64 t.val.kind) ∧ w'.cell? ⟨w.heap.size, 4, none⟩ = some (.int .i64 t.val.num) ∧ w'.cell? ⟨w.heap.size, 5, none⟩ = some (.string t.val.sym) ∧ w'.cell? ⟨w.heap.size + 1, 0, none⟩ = some (.int .i64 f.tag) ∧ w'.cell? ⟨w.heap.size + 1, 1, none⟩ = some (.string f.cls) ∧ w'.cell? ⟨w.heap.size + 1, 2, none⟩ = some (.slice (some ⟨b, o, none⟩) f.slots.length c) ∧ w'.cell? ⟨b, o + s * 3, none⟩ = some (.int .i64 v.kind) ∧ w'.cell? ⟨b, o + s * 3 + 1, none⟩ = some (.int .i64 v.num) ∧ w'.cell? ⟨b, o + s * 3 + 2, none⟩ = some (.string v.sym) ∧ w'.cell? ⟨b, o + r * 3, none⟩ = some (.int .i64 u.kind) ∧ w'.cell? ⟨b, o + r * 3 + 1, none⟩ = some (.int .i64 u.num) ∧ w'.cell? ⟨b, o + r * 3 + 2, none⟩ = some (.string u.sym)) ((go_split_ands; refine ⟨?_, ?_, ?_, ?_, ?_, ?_, ?_, ?_, ?_, ?_, ?_, ?_, ?_, ?_, ?_⟩ <;> first | (simp [*]; done) | exact cell_below hb' (by assumption))) (first | (go_at_call 157; refine (hH2.out _).mono ?_; rintro e w' ⟨rfl, hb'⟩) | (go_at_call 116; refine (hM.out _).mono ?_; rintro e w'' ⟨rfl, hb''⟩; have hb0 := hb'; have hb' := hb'') | fail))
        | fail
        go_wp2
        go_ret
        exact ⟨ret_bool HN.out.symm, (((B2 _ _).trans (hb1.mono (by simp; omega))).drew.trans (hb0.mono (by have := (B2 default default).size; have := hb1.size; simp at *; omega))).trans (hb''.mono (by have := (B2 default default).size; have := hb1.size; have := hb0.size; simp at *; omega))⟩
end Go.Proofs.YtognpkdgphebeaaGreat

namespace Go.Proofs.YtognpkdgphebeaaGreat
open Go.RowKit

theorem passes_cls {x : Al} {f : F} (h : ¬ f.cls.toList = x.cls.toList) : passes x f = false := by simp [passes, h]
theorem passes_len {x : Al} {f : F} (h : ¬ (f.slots.length : Int) = x.arity) : passes x f = false := by simp [passes, h]
theorem passes_all {x : Al} {f : F} (h : f.cls.toList = x.cls.toList) (h' : (f.slots.length : Int) = x.arity) : passes x f = x.tests.all (fun t => tHolds t f.slots) := by simp [passes, h, h']
/-- A fact in its box. -/
def FcBox (w : World) (b : Nat) (f : F) (a : Option Addr) (c : Nat) : Prop := w.cell? ⟨b, 0, none⟩ = some (.int .i64 f.tag) ∧ w.cell? ⟨b, 1, none⟩ = some (.string f.cls) ∧ w.cell? ⟨b, 2, none⟩ = some (.slice a f.slots.length c)
theorem FcBox.below {w w' : World} {b : Nat} {f : F} {a : Option Addr} {c : Nat} (h : FcBox w b f a c) (hb : Below w.heap.size w w') : FcBox w' b f a c := ⟨cell_below hb h.1, cell_below hb h.2.1, cell_below hb h.2.2⟩

set_option maxHeartbeats 1600000 in
theorem iPass_any (x : Al) (a_tests : Option Addr) (c_tests : Nat) (f : F) (a : Option Addr) (c : Nat) {q : Option Nat} (w : World) (ht : TtsAt q w a_tests x.tests) (hv : ValsAt w a f.slots) (hl : x.tests.length ≤ 1048576) :
    Calls Tryz.prog 125 #[.agg #[.string x.cls, .int .i64 x.arity, .slice a_tests x.tests.length c_tests], .agg #[.int .i64 f.tag, .string f.cls, .slice a f.slots.length c]] w fun e w' =>
      e = .returned (.bool (passes x f)) ∧ Below w.heap.size w w' := by
  have B2 : ∀ o o1, Below w.heap.size w ((w.alloc o).alloc o1) := fun o o1 => ((Below.refl _ _).alloc (Nat.le_refl _) _).alloc (by simp) _
  by_cases hc : f.cls.toList = x.cls.toList
  · by_cases hn : (f.slots.length : Int) = x.arity
    · have HG0 : Hid (passes x f = x.tests.all (fun t => tHolds t f.slots)) := passes_all hc hn
      have hn' : ((f.slots.length : Int) != x.arity) = false := by simp [hn]
      go_enter Tryz.func125, Tryz.ntmps125
      go_wp2
      clear hc hn hn'
      go_loopw [23] (fun i wr => ∃ (k : Nat), k ≤ x.tests.length ∧ i = .int .i64 k ∧ passes x f = (x.tests.drop k).all (fun t => tHolds t f.slots) ∧ FcBox wr (w.heap.size + 1) f a c ∧ Below w.heap.size w wr) (fun i _ => x.tests.length - (intOf i).toNat)
      case atStart => exact ⟨0, by omega, rfl, HG0.out, by refine ⟨?_, ?_, ?_⟩ <;> simp [go_sem], B2 _ _⟩
      case round =>
        obtain ⟨k, hk, rfl, hG, hbox, hb⟩ := hrel
        have HG := hidA hG
        have HBX := hidA hbox
        clear hG
        by_cases hkl : k < x.tests.length
        · obtain ⟨t, htk⟩ : ∃ t, x.tests[k]? = some t := ⟨x.tests[k], by simp [hkl]⟩
          obtain ⟨b, o, rfl, hq, c0, c1, c2, c3, c4, c5⟩ := (ht.below hb).get htk
          have HD : Hid (x.tests.drop k = t :: x.tests.drop (k + 1)) := drop_cons htk
          have B1 : ∀ o, Below wr.heap.size wr (wr.alloc o) := fun o => (Below.refl _ _).alloc (Nat.le_refl _) _
          have hV := hidA (fun o => (hv.below hb).below (B1 o))
          have hT := hidA (fun w' h => tHolds_any t f a c w' h)
          have q0 : ∀ o, (wr.alloc o).cell? ⟨w.heap.size + 1, 0, none⟩ = _ := fun o => cell_below (B1 o) hbox.1
          have q1 : ∀ o, (wr.alloc o).cell? ⟨w.heap.size + 1, 1, none⟩ = _ := fun o => cell_below (B1 o) hbox.2.1
          have q2 : ∀ o, (wr.alloc o).cell? ⟨w.heap.size + 1, 2, none⟩ = _ := fun o => cell_below (B1 o) hbox.2.2
          clear hbox
          cases hth : tHolds t f.slots
          all_goals
            rw [hth] at hT
            go_wp2_with (go_at_call 143; refine (hT.out _ (hV.out _)).mono ?_; rintro e w1 ⟨rfl, hb1⟩)
          · go_ret
            exact ⟨ret_bool (by rw [HG.out, HD.out, List.all_cons, hth]; rfl), hb.trans (((B1 _).trans (hb1.mono (by simp))).mono hb.size)⟩
          · go_roundw
            case rel => exact ⟨k + 1, by omega, by go_num, by rw [HG.out, HD.out, List.all_cons, hth]; rfl, HBX.out.below ((B1 _).trans (hb1.mono (by simp))), hb.trans (((B1 _).trans (hb1.mono (by simp))).mono hb.size)⟩
            case measure => simp [intOf]; omega
        · go_wp2
          go_ret
          exact ⟨ret_bool (by rw [HG.out, List.drop_eq_nil_of_le (by omega)]; rfl), hb⟩
    · have HN : Hid (passes x f = false) := passes_len hn
      have hn' : ((f.slots.length : Int) != x.arity) = true := by simp [hn]
      go_enter Tryz.func125, Tryz.ntmps125
      go_wp2
      go_ret
      exact ⟨ret_bool HN.out.symm, B2 _ _⟩
  · have HN : Hid (passes x f = false) := passes_cls hc
    go_enter Tryz.func125, Tryz.ntmps125
    go_wp2
    go_ret
    exact ⟨ret_bool HN.out.symm, B2 _ _⟩
end Go.Proofs.YtognpkdgphebeaaGreat
