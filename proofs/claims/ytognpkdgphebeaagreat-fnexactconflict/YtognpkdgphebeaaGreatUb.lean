/-
  OUR OWN TEXT. Pg1, Pg2, Pg3, one behind the other.
-/
import Derived.Test.YtognpkdgphebeaaGreatUa
import Derived.Test.YtognpkdgphebeaaGreatQa
import Derived.Test.YtognpkdgphebeaaGreatOa
import Derived.Deep.RegionHeld3
import Derived.Deep.DeepCutAuto
import Derived.Test.YtognpkdgphebeaaGreatOd
namespace Go.Proofs.YtognpkdgphebeaaGreat
open Go.RowKit
attribute [local go_sem ↓] Go.wp_at_zero Go.wp_at_succ

theorem hidP {p : Prop} (h : p) : Hid p := h
/-- A pointer to a fact. -/
def FacAt (w : World) (v : Value) (f : F) : Prop :=
  ∃ b o, v = .pointer (some ⟨b, o, none⟩) ∧ w.cell? ⟨b, o, none⟩ = some (.int .i64 f.tag) ∧ w.cell? ⟨b, o + 1, none⟩ = some (.string f.cls) ∧ ∃ a c, w.cell? ⟨b, o + 2, none⟩ = some (.slice a f.slots.length c) ∧ ValsAt w a f.slots
theorem FacAt.below {w w' : World} {v : Value} {f : F} (h : FacAt w v f) (hb : Below w.heap.size w w') : FacAt w' v f := by
  obtain ⟨b, o, e, h0, h1, a, c, h2, h3⟩ := h
  exact ⟨b, o, e, cell_below hb h0, cell_below hb h1, a, c, cell_below hb h2, h3.below hb⟩
theorem cell_ltP {w : World} {b o : Nat} {x : Value} (h : w.cell? ⟨b, o, none⟩ = some x) : b < w.heap.size := by
  by_cases hp : b < w.heap.size
  · exact hp
  · have : w.heap[b]? = none := Array.getElem?_eq_none (by omega)
    simp [World.cell?, this] at h
theorem lift3P {P : World → Prop} {w : World} {o1 o2 o3 : Obj} (h : ∀ wt, Below w.heap.size w wt → wt.heap[w.heap.size]? = some o1 → wt.heap[w.heap.size + 1]? = some o2 → wt.heap[w.heap.size + 2]? = some o3 → P wt) : P (((w.alloc o1).alloc o2).alloc o3) := by
  refine h _ ((((Below.refl _ _).alloc (Nat.le_refl _) _).alloc (by simp) _).alloc (by simp; omega) _) ?_ ?_ ?_
  · exact (Below.heap_alloc _ _ _ (by simp; omega)).trans ((Below.heap_alloc _ _ _ (by simp)).trans (heap_alloc_new _ _))
  · exact (Below.heap_alloc _ _ _ (by simp)).trans (by have := heap_alloc_new (w.alloc o1) o2; simpa using this)
  · have := heap_alloc_new ((w.alloc o1).alloc o2) o3
    simpa using this
set_option maxHeartbeats 3200000 in
theorem tokVal_any (p0 p1 p2 pv : Value) (i s : Nat) (f : F) (v : V) (w : World) (hp : [p0, p1, p2][i]? = some pv) (hF : FacAt w pv f) (hv : f.slots[s]? = some v) :
    Calls Tryz.prog 52 #[.agg #[p0, p1, p2], .agg #[.int .i64 (i : Int), .int .i64 (s : Int)]] w fun e w' => e = .returned (.agg #[.int .i64 v.kind, .int .i64 v.num, .string v.sym]) ∧ Below w.heap.size w w' := by
  have hi3 : i < 3 := by
    by_cases h : i < 3
    · exact h
    · rw [List.getElem?_eq_none (by simp; omega)] at hp
      cases hp
  obtain ⟨b, o, rfl, h0, h1, a, c, h2, h3⟩ := hF
  obtain ⟨vb, vo, rfl, u0, u1, u2⟩ := h3 s v hv
  have hsl : s < f.slots.length := (List.getElem?_eq_some_iff.1 hv).1
  go_enter Tryz.func52, Tryz.ntmps52
  go_upto_region 1 with fail
  refine lift3P ?_
  intro w0 hW0 hq0 hq1 hq2
  have t0 : w0.cell? ⟨w.heap.size, i, none⟩ = some (.pointer (some ⟨b, o, none⟩)) := by
    rcases i with _ | _ | _ | i
    · simp at hp; subst hp; simp [World.cell?, hq0]
    · simp at hp; subst hp; simp [World.cell?, hq0]
    · simp at hp; subst hp; simp [World.cell?, hq0]
    · omega
  have t1 : w0.cell? ⟨w.heap.size + 1, 0, none⟩ = some (.int .i64 (i : Int)) := by simp [World.cell?, hq1]
  have t2 : w0.cell? ⟨w.heap.size + 1, 1, none⟩ = some (.int .i64 (s : Int)) := by simp [World.cell?, hq1]
  have x0 : w0.cell? ⟨w.heap.size + 2, 0, none⟩ = some (.int .i64 0) := by simp [World.cell?, hq2]
  have x1 : w0.cell? ⟨w.heap.size + 2, 1, none⟩ = some (.int .i64 0) := by simp [World.cell?, hq2]
  have x2 : w0.cell? ⟨w.heap.size + 2, 2, none⟩ = some (.string ⟨#[]⟩) := by simp [World.cell?, hq2]
  have z0 : w0.frozen? ⟨w.heap.size + 2, 0, none⟩ = false := by simp [World.frozen?, hq2]
  have z1 : w0.frozen? ⟨w.heap.size + 2, 1, none⟩ = false := by simp [World.frozen?, hq2]
  have z2 : w0.frozen? ⟨w.heap.size + 2, 2, none⟩ = false := by simp [World.frozen?, hq2]
  have g2 := cell_below hW0 h2
  have v0 := cell_below hW0 u0
  have v1 := cell_below hW0 u1
  have v2 := cell_below hW0 u2
  have k0 : (0 : Int) ≤ (i : Int) := by omega
  have k1 : (i : Int) < 3 := by omega
  have k2 : (0 : Int) ≤ (s : Int) := by omega
  have k3 : (s : Int) < (f.slots.length : Int) := by omega
  have B0 := hidP hW0
  have Q2 := hidP hq2
  have hl2 : w.heap.size + 2 < w0.heap.size := lt_of_block' hq2
  clear hW0 hq0 hq1 hq2 h0 h1 h2 h3 u0 u1 u2 hv hp
  go_wp2_with fail
  go_region
  go_wp2_with fail
  refine bodyPost_ret (v := .agg #[.int .i64 v.kind, .int .i64 v.num, .string v.sym]) (by simp [results, Tryz.results52, go_sem, x0, x1, x2]) rfl ⟨rfl, ?_⟩
  exact (((B0.out.setCell (by simp; omega) _).setCell (by simp; omega) _).setCell (by simp; omega) _).drew
/-- A join test: a slot, an operator, a place of a token. -/
structure Jt where
  slot : Nat
  op : Int
  fact : Nat
  at_ : Nat
def jtCells (t : Jt) : List Value := [.int .i64 (t.slot : Int), .int .i64 t.op, .int .i64 (t.fact : Int), .int .i64 (t.at_ : Int)]
/-- Join tests from an address on. -/
def JtsAt (w : World) (a : Option Addr) (ts : List Jt) : Prop :=
  ∀ (i : Nat) (t : Jt), ts[i]? = some t → ∃ b o, a = some ⟨b, o, none⟩ ∧ w.cell? ⟨b, o + i * 4, none⟩ = some (.int .i64 (t.slot : Int)) ∧ w.cell? ⟨b, o + i * 4 + 1, none⟩ = some (.int .i64 t.op) ∧ w.cell? ⟨b, o + i * 4 + 2, none⟩ = some (.int .i64 (t.fact : Int)) ∧ w.cell? ⟨b, o + i * 4 + 3, none⟩ = some (.int .i64 (t.at_ : Int))
theorem JtsAt.below {w w' : World} {a : Option Addr} {ts : List Jt} (h : JtsAt w a ts) (hb : Below w.heap.size w w') : JtsAt w' a ts := by
  intro i t hi
  obtain ⟨b, o, e, h0, h1, h2, h3⟩ := h i t hi
  exact ⟨b, o, e, cell_below hb h0, cell_below hb h1, cell_below hb h2, cell_below hb h3⟩
/-- The token's facts, as far as there are some. -/
def TokAt (w : World) (p0 p1 p2 : Value) (T : List F) : Prop := ∀ (i : Nat) (f : F), T[i]? = some f → ∃ pv, [p0, p1, p2][i]? = some pv ∧ FacAt w pv f
theorem TokAt.below {w w' : World} {p0 p1 p2 : Value} {T : List F} (h : TokAt w p0 p1 p2 T) (hb : Below w.heap.size w w') : TokAt w' p0 p1 p2 T := by
  intro i f hi
  obtain ⟨pv, h1, h2⟩ := h i f hi
  exact ⟨pv, h1, h2.below hb⟩
/-- A test can be asked: its slot and its place are there. -/
def Jt.fits (t : Jt) (T : List F) (f : F) : Prop := t.slot < f.slots.length ∧ ∃ g, T[t.fact]? = some g ∧ t.at_ < g.slots.length
def jHolds (T : List F) (f : F) (t : Jt) : Bool := meets t.op (f.slots[t.slot]?.getD (0, 0, ⟨#[]⟩)) (((T[t.fact]?.map (·.slots)).getD [])[t.at_]?.getD (0, 0, ⟨#[]⟩))
theorem jHolds_eq {T : List F} {f g : F} {t : Jt} {v u : V} (h1 : f.slots[t.slot]? = some v) (h2 : T[t.fact]? = some g) (h3 : g.slots[t.at_]? = some u) : jHolds T f t = meets t.op v u := by
  unfold jHolds
  rw [h1, h2]
  simp [h3]
theorem lift2P {P : World → Prop} {w : World} {o1 o2 : Obj} (h : ∀ wt, Below w.heap.size w wt → wt.heap[w.heap.size]? = some o1 → wt.heap[w.heap.size + 1]? = some o2 → P wt) : P ((w.alloc o1).alloc o2) :=
  h _ (((Below.refl _ _).alloc (Nat.le_refl _) _).alloc (by simp) _) ((Below.heap_alloc _ _ _ (by simp)).trans (heap_alloc_new _ _)) (by have := heap_alloc_new (w.alloc o1) o2; simpa using this)
theorem cells4P {w : World} {b : Nat} {ty : TypeId} {x0 x1 x2 x3 : Value} (h : w.heap[b]? = some (.cells #[x0, x1, x2, x3] ty (0, 0))) : w.cell? ⟨b, 0, none⟩ = some x0 ∧ w.cell? ⟨b, 1, none⟩ = some x1 ∧ w.cell? ⟨b, 2, none⟩ = some x2 ∧ w.cell? ⟨b, 3, none⟩ = some x3 := by
  refine ⟨?_, ?_, ?_, ?_⟩ <;> simp [World.cell?, h]
theorem cells3P {w : World} {b : Nat} {ty : TypeId} {x0 x1 x2 : Value} (h : w.heap[b]? = some (.cells #[x0, x1, x2] ty (0, 0))) : w.cell? ⟨b, 0, none⟩ = some x0 ∧ w.cell? ⟨b, 1, none⟩ = some x1 ∧ w.cell? ⟨b, 2, none⟩ = some x2 := by
  refine ⟨?_, ?_, ?_⟩ <;> simp [World.cell?, h]
set_option maxRecDepth 100000 in
set_option maxHeartbeats 6400000 in
theorem agrees_any (ng ct nd p0 p1 p2 pf : Value) (ts : List Jt) (ta : Option Addr) (tc : Nat) (T : List F) (f : F) (w : World) (h_t : JtsAt w ta ts) (h_T : TokAt w p0 p1 p2 T) (h_f : FacAt w pf f) (hl : ts.length ≤ 1048576) (hfit : ∀ t ∈ ts, t.fits T f) :
    Calls Tryz.prog 96 #[.agg #[ng, ct, nd, .slice ta ts.length tc], .agg #[p0, p1, p2], pf] w fun e w' => e = .returned (.bool (ts.all (jHolds T f))) ∧ Below w.heap.size w w' := by
  have HJ := hidP h_t
  have HT := hidP h_T
  have HF := hidP h_f
  have HFI := hidP hfit
  clear h_t h_T h_f hfit
  go_enter Tryz.func96, Tryz.ntmps96
  go_upto_region 1 with fail
  refine lift2P ?_
  intro w0 hW0 hq0 hq1
  obtain ⟨_, _, _, c3⟩ := cells4P hq0
  obtain ⟨t0, t1, t2⟩ := cells3P hq1
  have H0 := hidP hW0
  have hl0 : w.heap.size + 1 < w0.heap.size := lt_of_block' hq1
  clear hW0 hq0 hq1
  go_wp2_with fail
  go_loopw [12] (fun iv wr => ∃ (k : Nat), iv = .int .i64 (k : Int) ∧ k ≤ ts.length ∧ ts.all (jHolds T f) = (ts.drop k).all (jHolds T f) ∧ Below w0.heap.size w0 wr) (fun iv _ => ts.length - (intOf iv).toNat)
  case atStart => exact ⟨0, rfl, Nat.zero_le _, rfl, Below.refl _ _⟩
  case round =>
    obtain ⟨k, rfl, hkl, hG, hb⟩ := hrel
    have HG := hidP hG
    have HBB := hidP hb
    have HBW := hidP (H0.out.trans (hb.mono H0.out.size))
    have hsr := hb.size
    clear hG hb
    by_cases hk : k < ts.length
    · obtain ⟨t, ht⟩ : ∃ t, ts[k]? = some t := ⟨ts[k], by simp [hk]⟩
      obtain ⟨jb, jo, rfl, j0, j1, j2, j3⟩ := (HJ.out.below HBW.out) k t ht
      obtain ⟨hsl, g, hg, hat⟩ := HFI.out t (List.mem_of_getElem? ht)
      obtain ⟨v, hv⟩ : ∃ v, f.slots[t.slot]? = some v := ⟨f.slots[t.slot], by simp [hsl]⟩
      obtain ⟨u, hu⟩ : ∃ u, g.slots[t.at_]? = some u := ⟨g.slots[t.at_], by simp [hat]⟩
      obtain ⟨pv, hpv, hpf⟩ := HT.out _ g hg
      have HD := hidP (show ts.all (jHolds T f) = (meets t.op v u && (ts.drop (k + 1)).all (jHolds T f)) by rw [HG.out, drop_cons ht, List.all_cons, jHolds_eq hv hg hu])
      have HVAL := hidP (fun w' (h : Below w.heap.size w w') => tokVal_any p0 p1 p2 pv t.fact t.at_ g u w' hpv (hpf.below h) hu)
      have HME := hidP (fun w' => meets_any v u t.op w')
      obtain ⟨fb, fo, rfl, s0, s1, fa, fc, s2, hsv⟩ := HF.out
      obtain ⟨vb, vo, rfl, y0, y1, y2⟩ := hsv _ v hv
      have r0 := cell_below HBB.out t0
      have r1 := cell_below HBB.out t1
      have r2 := cell_below HBB.out t2
      have g2 := cell_below HBW.out s2
      have v0 := cell_below HBW.out y0
      have v1 := cell_below HBW.out y1
      have v2 := cell_below HBW.out y2
      have z0 : (0 : Int) ≤ (k : Int) := by omega
      have z1 : (k : Int) < (ts.length : Int) := by omega
      have z2 : (0 : Int) ≤ (t.slot : Int) := by omega
      have z3 : (t.slot : Int) < (f.slots.length : Int) := by omega
      clear ht hv hu hpv hpf hg HG s0 s1 s2 hsv y0 y1 y2 hat
      go_upto_region 4 with fail
      refine lift_alloc ?_
      intro w2 hW2 hq2
      obtain ⟨d0, d1, d2, d3⟩ := cells4P hq2
      have q0 := cell_below hW2 r0
      have q1 := cell_below hW2 r1
      have q2 := cell_below hW2 r2
      have e2 := cell_below hW2 g2
      have x0 := cell_below hW2 v0
      have x1 := cell_below hW2 v1
      have x2 := cell_below hW2 v2
      have D2 := hidP (HBB.out.trans (hW2.mono HBB.out.size))
      have W2 := hidP (HBW.out.trans (hW2.mono HBW.out.size))
      have hs2 := hW2.size
      clear hW2 hq2 r0 r1 r2 g2 v0 v1 v2 j0 j1 j2 j3 HBB HBW
      cases hm : meets t.op v u
      · have HN := hidP (show ts.all (jHolds T f) = false by rw [HD.out, hm]; rfl)
        rw [hm] at HME
        clear hm HD
        go_wp2_with fail
        go_region_held3 (fun w' => w'.cell? ⟨wr.heap.size, 0, none⟩ = some (.int .i64 (t.slot : Int)) ∧ w'.cell? ⟨wr.heap.size, 1, none⟩ = some (.int .i64 t.op) ∧ w'.cell? ⟨wr.heap.size, 2, none⟩ = some (.int .i64 (t.fact : Int)) ∧ w'.cell? ⟨wr.heap.size, 3, none⟩ = some (.int .i64 (t.at_ : Int)) ∧ w'.cell? ⟨w.heap.size + 1, 0, none⟩ = some p0 ∧ w'.cell? ⟨w.heap.size + 1, 1, none⟩ = some p1 ∧ w'.cell? ⟨w.heap.size + 1, 2, none⟩ = some p2 ∧ w'.cell? ⟨fb, fo + 2, none⟩ = some (.slice (some ⟨vb, vo, none⟩) f.slots.length fc) ∧ w'.cell? ⟨vb, vo + t.slot * 3, none⟩ = some (.int .i64 v.kind) ∧ w'.cell? ⟨vb, vo + t.slot * 3 + 1, none⟩ = some (.int .i64 v.num) ∧ w'.cell? ⟨vb, vo + t.slot * 3 + 2, none⟩ = some (.string v.sym) ∧ Below w0.heap.size w0 w' ∧ w2.heap.size ≤ w'.heap.size) ((go_split_ands; refine ⟨?_, ?_, ?_, ?_, ?_, ?_, ?_, ?_, ?_, ?_, ?_, ?_, ?_⟩ <;> first | (simp [*]; done) | exact D2.out.drew | exact cell_below hb' (by assumption) | exact Below.trans (by assumption) (Below.mono hb' (by omega)) | omega)) (first | (go_at_call 52; refine (HVAL.out _ (by first | exact W2.out.drew | exact W2.out | exact H0.out.trans (Below.mono (by assumption) H0.out.size))).mono ?_; rintro e w' ⟨rfl, hb'⟩; have hsz' := hb'.size) | (go_at_call 116; refine (HME.out _).mono ?_; rintro e w' ⟨rfl, hb'⟩; have hsz' := hb'.size) | fail)
        rename_i hh
        have D9 := hidP hh.2.2.2.2.2.2.2.2.2.2.2.1
        clear hh
        go_wp2_with fail
        go_ret
        exact ⟨ret_bool HN.out.symm, H0.out.trans (D9.out.mono H0.out.size)⟩
      · have HN := hidP (show ts.all (jHolds T f) = (ts.drop (k + 1)).all (jHolds T f) by rw [HD.out, hm]; rfl)
        rw [hm] at HME
        clear hm HD
        go_wp2_with fail
        go_region_held3 (fun w' => w'.cell? ⟨wr.heap.size, 0, none⟩ = some (.int .i64 (t.slot : Int)) ∧ w'.cell? ⟨wr.heap.size, 1, none⟩ = some (.int .i64 t.op) ∧ w'.cell? ⟨wr.heap.size, 2, none⟩ = some (.int .i64 (t.fact : Int)) ∧ w'.cell? ⟨wr.heap.size, 3, none⟩ = some (.int .i64 (t.at_ : Int)) ∧ w'.cell? ⟨w.heap.size + 1, 0, none⟩ = some p0 ∧ w'.cell? ⟨w.heap.size + 1, 1, none⟩ = some p1 ∧ w'.cell? ⟨w.heap.size + 1, 2, none⟩ = some p2 ∧ w'.cell? ⟨fb, fo + 2, none⟩ = some (.slice (some ⟨vb, vo, none⟩) f.slots.length fc) ∧ w'.cell? ⟨vb, vo + t.slot * 3, none⟩ = some (.int .i64 v.kind) ∧ w'.cell? ⟨vb, vo + t.slot * 3 + 1, none⟩ = some (.int .i64 v.num) ∧ w'.cell? ⟨vb, vo + t.slot * 3 + 2, none⟩ = some (.string v.sym) ∧ Below w0.heap.size w0 w' ∧ w2.heap.size ≤ w'.heap.size) ((go_split_ands; refine ⟨?_, ?_, ?_, ?_, ?_, ?_, ?_, ?_, ?_, ?_, ?_, ?_, ?_⟩ <;> first | (simp [*]; done) | exact D2.out.drew | exact cell_below hb' (by assumption) | exact Below.trans (by assumption) (Below.mono hb' (by omega)) | omega)) (first | (go_at_call 52; refine (HVAL.out _ (by first | exact W2.out.drew | exact W2.out | exact H0.out.trans (Below.mono (by assumption) H0.out.size))).mono ?_; rintro e w' ⟨rfl, hb'⟩; have hsz' := hb'.size) | (go_at_call 116; refine (HME.out _).mono ?_; rintro e w' ⟨rfl, hb'⟩; have hsz' := hb'.size) | fail)
        rename_i hh
        have D9 := hidP hh.2.2.2.2.2.2.2.2.2.2.2.1
        clear hh
        go_wp2_with fail
        go_roundw
        case rel => exact ⟨k + 1, by go_num, by omega, HN.out, D9.out⟩
        case measure => (simp [intOf]; omega)
    · have hke : k = ts.length := by omega
      subst hke
      have HN := hidP (show ts.all (jHolds T f) = true by rw [HG.out, List.drop_eq_nil_of_le (Nat.le_refl _)]; rfl)
      have hy : ¬ (ts.length : Int) < (ts.length : Int) := by omega
      go_wp2_with fail
      go_ret
      exact ⟨ret_bool HN.out.symm, HBW.out⟩
end Go.Proofs.YtognpkdgphebeaaGreat

namespace Go.Proofs.YtognpkdgphebeaaGreat
open Go.RowKit
attribute [local go_sem ↓] Go.wp_at_zero Go.wp_at_succ

theorem hmfP (fn : Fn) (first cap : Array Value) (w : World) : (Instr.makeFunc fn first cap).run Tryz.prog w = .ok (.func fn first cap) w := rfl
/-- A row of pointers to facts. -/
def FpsAt (w : World) (a : Option Addr) (fs : List F) : Prop := ∀ (i : Nat) (f : F), fs[i]? = some f → ∃ b o pv, a = some ⟨b, o, none⟩ ∧ w.cell? ⟨b, o + i, none⟩ = some pv ∧ FacAt w pv f
theorem FpsAt.below {w w' : World} {a : Option Addr} {fs : List F} (h : FpsAt w a fs) (hb : Below w.heap.size w w') : FpsAt w' a fs := by
  intro i f hi
  obtain ⟨b, o, pv, e, h1, h2⟩ := h i f hi
  exact ⟨b, o, pv, e, cell_below hb h1, h2.below hb⟩
/-- The boxes of a condition and of a token, as a function value keeps them. -/
structure CapAt (w : World) (cb tb : Nat) (ng ct nd p0 p1 p2 : Value) (ta : Option Addr) (n tc : Nat) : Prop where
  c0 : w.cell? ⟨cb, 0, none⟩ = some ng
  c1 : w.cell? ⟨cb, 1, none⟩ = some ct
  c2 : w.cell? ⟨cb, 2, none⟩ = some nd
  c3 : w.cell? ⟨cb, 3, none⟩ = some (.slice ta n tc)
  t0 : w.cell? ⟨tb, 0, none⟩ = some p0
  t1 : w.cell? ⟨tb, 1, none⟩ = some p1
  t2 : w.cell? ⟨tb, 2, none⟩ = some p2
theorem CapAt.below {w w' : World} {cb tb : Nat} {ng ct nd p0 p1 p2 : Value} {ta : Option Addr} {n tc : Nat} (h : CapAt w cb tb ng ct nd p0 p1 p2 ta n tc) (hb : Below w.heap.size w w') : CapAt w' cb tb ng ct nd p0 p1 p2 ta n tc :=
  ⟨cell_below hb h.c0, cell_below hb h.c1, cell_below hb h.c2, cell_below hb h.c3, cell_below hb h.t0, cell_below hb h.t1, cell_below hb h.t2⟩
set_option maxHeartbeats 3200000 in
theorem barred1_any (cb tb : Nat) (ng ct nd p0 p1 p2 pf : Value) (ts : List Jt) (ta : Option Addr) (tc : Nat) (T : List F) (f : F) (w : World) (hC : CapAt w cb tb ng ct nd p0 p1 p2 ta ts.length tc) (h_t : JtsAt w ta ts) (h_T : TokAt w p0 p1 p2 T) (h_f : FacAt w pf f) (hl : ts.length ≤ 1048576) (hfit : ∀ t ∈ ts, t.fits T f) :
    Calls Tryz.prog 115 #[pf, .pointer (some ⟨cb, 0, none⟩), .pointer (some ⟨tb, 0, none⟩)] w fun e w' => e = .returned (.bool (ts.all (jHolds T f))) ∧ Below w.heap.size w w' := by
  have HA := hidP (agrees_any ng ct nd p0 p1 p2 pf ts ta tc T f w h_t h_T h_f hl hfit)
  obtain ⟨c0, c1, c2, c3, t0, t1, t2⟩ := hC
  clear h_t h_T h_f hfit
  go_enter Tryz.func115, Tryz.ntmps115
  go_wp2_with fail
  refine HA.out.mono ?_
  rintro e w1 ⟨rfl, hb1⟩
  have B1 := hidP hb1
  clear HA hb1
  go_wp2_with fail
  go_ret
  exact ⟨rfl, B1.out⟩
set_option maxHeartbeats 3200000 in
theorem indexFunc_any (cb tb : Nat) (ng ct nd p0 p1 p2 : Value) (ts : List Jt) (ta : Option Addr) (tc : Nat) (T : List F) (fs : List F) (fa : Option Addr) (fc : Nat) (w : World) (hC : CapAt w cb tb ng ct nd p0 p1 p2 ta ts.length tc) (h_t : JtsAt w ta ts) (h_T : TokAt w p0 p1 p2 T) (h_f : FpsAt w fa fs) (hl : ts.length ≤ 1048576) (hlf : fs.length ≤ 1048576) (hfit : ∀ f ∈ fs, ∀ t ∈ ts, t.fits T f) :
    Calls Tryz.prog 137 #[.slice fa fs.length fc, .func (.func 115) #[] #[.pointer (some ⟨cb, 0, none⟩), .pointer (some ⟨tb, 0, none⟩)]] w fun e w' => (∃ n : Int, e = .returned (.int .i64 n) ∧ decide (0 ≤ n) = fs.any (fun f => ts.all (jHolds T f))) ∧ Below w.heap.size w w' := by
  have HC := hidP hC
  have HJ := hidP h_t
  have HT := hidP h_T
  have HF := hidP h_f
  have HFI := hidP hfit
  clear hC h_t h_T h_f hfit
  go_enter Tryz.func137, Tryz.ntmps137
  go_wp2_with fail
  go_loopw [8] (fun iv wr => ∃ (k : Nat), iv = .int .i64 (k : Int) ∧ k ≤ fs.length ∧ fs.any (fun f => ts.all (jHolds T f)) = (fs.drop k).any (fun f => ts.all (jHolds T f)) ∧ Below w.heap.size w wr) (fun iv _ => fs.length - (intOf iv).toNat)
  case atStart => exact ⟨0, rfl, Nat.zero_le _, rfl, Below.refl _ _⟩
  case round =>
    obtain ⟨k, rfl, hkl, hG, hb⟩ := hrel
    have HG := hidP hG
    have HBW := hidP hb
    clear hG hb
    by_cases hk : k < fs.length
    · obtain ⟨f, hf⟩ : ∃ f, fs[k]? = some f := ⟨fs[k], by simp [hk]⟩
      obtain ⟨fb, fo, pv, rfl, y0, hpv⟩ := (HF.out.below HBW.out) k f hf
      have HD := hidP (show fs.any (fun f => ts.all (jHolds T f)) = (ts.all (jHolds T f) || (fs.drop (k + 1)).any (fun f => ts.all (jHolds T f))) by rw [HG.out, drop_cons hf, List.any_cons])
      have HB := hidP (barred1_any cb tb ng ct nd p0 p1 p2 pv ts ta tc T f wr (HC.out.below HBW.out) (HJ.out.below HBW.out) (HT.out.below HBW.out) hpv hl (HFI.out f (List.mem_of_getElem? hf)))
      have z0 : (0 : Int) ≤ (k : Int) := by omega
      have z1 : (k : Int) < (fs.length : Int) := by omega
      clear hf hpv HG
      cases hm : ts.all (jHolds T f)
      · have HN := hidP (show fs.any (fun f => ts.all (jHolds T f)) = (fs.drop (k + 1)).any (fun f => ts.all (jHolds T f)) by rw [HD.out, hm]; rfl)
        rw [hm] at HB
        clear hm HD
        go_wp2_with fail
        refine HB.out.mono ?_
        rintro e w1 ⟨rfl, hb1⟩
        have B1 := hidP (HBW.out.trans (hb1.mono HBW.out.size))
        clear hb1 HB
        go_wp2_with fail
        go_roundw
        case rel => exact ⟨k + 1, by go_num, by omega, HN.out, B1.out⟩
        case measure => (simp [intOf]; omega)
      · have HN := hidP (show fs.any (fun f => ts.all (jHolds T f)) = true by rw [HD.out, hm]; rfl)
        rw [hm] at HB
        clear hm HD
        go_wp2_with fail
        refine HB.out.mono ?_
        rintro e w1 ⟨rfl, hb1⟩
        have B1 := hidP (HBW.out.trans (hb1.mono HBW.out.size))
        clear hb1 HB
        go_wp2_with fail
        go_ret
        exact ⟨⟨k, rfl, by rw [HN.out]; exact decide_eq_true z0⟩, B1.out⟩
    · have hke : k = fs.length := by omega
      subst hke
      have HN := hidP (show fs.any (fun f => ts.all (jHolds T f)) = false by rw [HG.out, List.drop_eq_nil_of_le (Nat.le_refl _)]; rfl)
      have hy : ¬ (fs.length : Int) < (fs.length : Int) := by omega
      go_wp2_with fail
      go_ret
      exact ⟨⟨-1, rfl, by rw [HN.out]; rfl⟩, HBW.out⟩
set_option maxHeartbeats 3200000 in
theorem containsFunc_any (cb tb : Nat) (ng ct nd p0 p1 p2 : Value) (ts : List Jt) (ta : Option Addr) (tc : Nat) (T : List F) (fs : List F) (fa : Option Addr) (fc : Nat) (w : World) (hC : CapAt w cb tb ng ct nd p0 p1 p2 ta ts.length tc) (h_t : JtsAt w ta ts) (h_T : TokAt w p0 p1 p2 T) (h_f : FpsAt w fa fs) (hl : ts.length ≤ 1048576) (hlf : fs.length ≤ 1048576) (hfit : ∀ f ∈ fs, ∀ t ∈ ts, t.fits T f) :
    Calls Tryz.prog 114 #[.slice fa fs.length fc, .func (.func 115) #[] #[.pointer (some ⟨cb, 0, none⟩), .pointer (some ⟨tb, 0, none⟩)]] w fun e w' => e = .returned (.bool (fs.any (fun f => ts.all (jHolds T f)))) ∧ Below w.heap.size w w' := by
  have HI := hidP (indexFunc_any cb tb ng ct nd p0 p1 p2 ts ta tc T fs fa fc w hC h_t h_T h_f hl hlf hfit)
  clear hC h_t h_T h_f hfit
  go_enter Tryz.func114, Tryz.ntmps114
  go_wp2_with fail
  refine HI.out.mono ?_
  rintro e w1 ⟨⟨n, rfl, hn⟩, hb1⟩
  have B1 := hidP hb1
  have HN := hidP hn
  clear HI hb1 hn
  go_wp2_with fail
  go_ret
  exact ⟨ret_bool HN.out, B1.out⟩
set_option maxHeartbeats 3200000 in
theorem barred_any (ng ct p0 p1 p2 : Value) (nb : Nat) (ts : List Jt) (ta : Option Addr) (tc : Nat) (T : List F) (fs : List F) (fa : Option Addr) (fc : Nat) (w : World) (h_n : w.cell? ⟨nb, 4, none⟩ = some (.slice fa fs.length fc)) (h_t : JtsAt w ta ts) (h_T : TokAt w p0 p1 p2 T) (h_f : FpsAt w fa fs) (hl : ts.length ≤ 1048576) (hlf : fs.length ≤ 1048576) (hfit : ∀ f ∈ fs, ∀ t ∈ ts, t.fits T f) :
    Calls Tryz.prog 94 #[.agg #[ng, ct, .pointer (some ⟨nb, 0, none⟩), .slice ta ts.length tc], .agg #[p0, p1, p2]] w fun e w' => e = .returned (.bool (fs.any (fun f => ts.all (jHolds T f)))) ∧ Below w.heap.size w w' := by
  have HJ := hidP h_t
  have HT := hidP h_T
  have HF := hidP h_f
  have HFI := hidP hfit
  have hmf := hmfP
  clear h_t h_T h_f hfit
  go_enter Tryz.func94, Tryz.ntmps94
  go_upto_region 1 with fail
  refine lift2P ?_
  intro w0 hW0 hq0 hq1
  obtain ⟨c0, c1, c2, c3⟩ := cells4P hq0
  obtain ⟨t0, t1, t2⟩ := cells3P hq1
  have HC := hidP (show CapAt w0 w.heap.size (w.heap.size + 1) ng ct (.pointer (some ⟨nb, 0, none⟩)) p0 p1 p2 ta ts.length tc from ⟨c0, c1, c2, c3, t0, t1, t2⟩)
  have H0 := hidP hW0
  have n4 := cell_below hW0 h_n
  have HS := hidP (containsFunc_any w.heap.size (w.heap.size + 1) ng ct (.pointer (some ⟨nb, 0, none⟩)) p0 p1 p2 ts ta tc T fs fa fc w0 HC.out (HJ.out.below hW0) (HT.out.below hW0) (HF.out.below hW0) hl hlf HFI.out)
  clear hW0 hq0 hq1 h_n
  go_wp2_with fail
  refine HS.out.mono ?_
  rintro e w1 ⟨rfl, hb1⟩
  have B1 := hidP (H0.out.trans (hb1.mono H0.out.size))
  clear HS hb1
  go_wp2_with fail
  go_ret
  exact ⟨rfl, B1.out⟩
end Go.Proofs.YtognpkdgphebeaaGreat

namespace Go.Proofs.YtognpkdgphebeaaGreat
open Go.RowKit
attribute [local go_sem ↓] Go.wp_at_zero Go.wp_at_succ

/-- A node's Alpha. -/
structure NdAt (w : World) (nb : Nat) (x : Al) (a : Option Addr) (c : Nat) : Prop where
  c0 : w.cell? ⟨nb, 0, none⟩ = some (.string x.cls)
  c1 : w.cell? ⟨nb, 1, none⟩ = some (.int .i64 x.arity)
  c2 : w.cell? ⟨nb, 2, none⟩ = some (.slice a x.tests.length c)
  tt : TtsAt none w a x.tests
set_option maxHeartbeats 3200000 in
theorem nodePasses_any (nb : Nat) (x : Al) (a : Option Addr) (c : Nat) (pf : Value) (f : F) (w : World) (hN : NdAt w nb x a c) (hF : FacAt w pf f) (hl : x.tests.length ≤ 1048576) :
    Calls Tryz.prog 107 #[.pointer (some ⟨nb, 0, none⟩), pf] w fun e w' => e = .returned (.bool (passes x f)) ∧ Below w.heap.size w w' := by
  obtain ⟨c0, c1, c2, htt⟩ := hN
  obtain ⟨b, o, rfl, f0, f1, sa, sc, f2, hsv⟩ := hF
  have HC := hidP (fun w' (h : Below w.heap.size w w') => iPass_any x a c f sa sc w' (htt.below h) (hsv.below h) hl)
  have D := hidP (Below.refl w.heap.size w)
  clear htt hsv
  go_enter Tryz.func107, Tryz.ntmps107
  go_wp2_with fail
  go_region_held3 (fun w' => w'.cell? ⟨nb, 0, none⟩ = some (.string x.cls) ∧ w'.cell? ⟨nb, 1, none⟩ = some (.int .i64 x.arity) ∧ w'.cell? ⟨nb, 2, none⟩ = some (.slice a x.tests.length c) ∧ w'.cell? ⟨b, o, none⟩ = some (.int .i64 f.tag) ∧ w'.cell? ⟨b, o + 1, none⟩ = some (.string f.cls) ∧ w'.cell? ⟨b, o + 2, none⟩ = some (.slice sa f.slots.length sc) ∧ Below w.heap.size w w') ((go_split_ands; refine ⟨?_, ?_, ?_, ?_, ?_, ?_, ?_⟩ <;> first | (simp [*]; done) | exact D.out.drew | exact cell_below hb' (by assumption) | exact Below.trans (by assumption) (Below.mono hb' (Below.size (by assumption))))) (first | (go_at_call 125; refine (HC.out _ (by first | exact D.out.drew | assumption)).mono ?_; rintro e w' ⟨rfl, hb'⟩) | fail)
  rename_i hh
  have D9 := hidP hh.2.2.2.2.2.2
  clear hh
  go_wp2_with fail
  go_ret
  exact ⟨rfl, D9.out⟩
/-- A condition: what it is, and the facts of its node. -/
structure Cn where
  neg : Bool
  at_ : Nat
  node : Nat
  tests : List Jt
  alpha : Al
  facts : List F
structure CnR (w : World) (c : Cn) (ta : Option Addr) : Prop where
  tests : JtsAt w ta c.tests
  node : ∃ a n, NdAt w c.node c.alpha a n
  facts : ∃ fa fc, w.cell? ⟨c.node, 4, none⟩ = some (.slice fa c.facts.length fc) ∧ FpsAt w fa c.facts
def CnsAt (w : World) (a : Option Addr) (cs : List Cn) : Prop := ∀ (i : Nat) (c : Cn), cs[i]? = some c → ∃ b o ta tc, a = some ⟨b, o, none⟩ ∧ w.cell? ⟨b, o + i * 4, none⟩ = some (.bool c.neg) ∧ w.cell? ⟨b, o + i * 4 + 1, none⟩ = some (.int .i64 (c.at_ : Int)) ∧ w.cell? ⟨b, o + i * 4 + 2, none⟩ = some (.pointer (some ⟨c.node, 0, none⟩)) ∧ w.cell? ⟨b, o + i * 4 + 3, none⟩ = some (.slice ta c.tests.length tc) ∧ CnR w c ta
def smallC (c : Cn) : Prop := c.tests.length ≤ 1048576 ∧ c.facts.length ≤ 1048576 ∧ c.alpha.tests.length ≤ 1048576
end Go.Proofs.YtognpkdgphebeaaGreat
