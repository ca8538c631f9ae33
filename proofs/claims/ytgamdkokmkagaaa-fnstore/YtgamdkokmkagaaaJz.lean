/-
  OUR OWN TEXT. Af, Af2, one behind the other.
-/
import Derived.Test.YtgamdkokmkagaaaJv
import Derived.Test.YtgamdkokmkagaaaSp9m
import Derived.Test.YtgamdkokmkagaaaRn11m
import Derived.Test.YtgamdkokmkagaaaSmm
namespace Go.Proofs.Ytgamdkokmkagaaa
open Go.RowKit
attribute [local go_sem ↓] Go.wp_at_zero Go.wp_at_succ

/-- Cells without a text. -/
def NoStr (cs : Array Value) : Prop := ∀ (j : Nat) (s : ByteArray), cs[j]? ≠ some (.string s)
theorem str_far {w : World} {b b' o : Nat} {cs : Array Value} {t : TypeId} {fr : Nat × Nat} {s : ByteArray} (hb : w.heap[b]? = some (.cells cs t fr)) (hn : NoStr cs) (hc : w.cell? ⟨b', o, none⟩ = some (.string s)) : b' ≠ b := by
  intro e
  subst e
  simp [World.cell?, hb] at hc
  exact hn o s hc
theorem ValsAt.far {w w' : World} {a : Option Addr} {vs : List V} {b : Nat} {cs : Array Value} {t : TypeId} {fr : Nat × Nat} (h : ValsAt w a vs) (hb : w.heap[b]? = some (.cells cs t fr)) (hn : NoStr cs) (hk : ∀ k, k ≠ b → w'.heap[k]? = w.heap[k]?) : ValsAt w' a vs := by
  intro i v hv
  obtain ⟨b', o, e, c0, c1, c2⟩ := h i v hv
  have hne := str_far hb hn c2
  have key : ∀ p, w'.cell? ⟨b', p, none⟩ = w.cell? ⟨b', p, none⟩ := fun p => World.cell?_of_block (w := w) (hk b' hne)
  exact ⟨b', o, e, (key _).trans c0, (key _).trans c1, (key _).trans c2⟩
theorem FactsAt.far {w w' : World} {a : Option Addr} {fs : List F} {b : Nat} {cs : Array Value} {t : TypeId} {fr : Nat × Nat} (h : FactsAt w a fs) (hb : w.heap[b]? = some (.cells cs t fr)) (hn : NoStr cs) (hk : ∀ k, k ≠ b → w'.heap[k]? = w.heap[k]?) : FactsAt w' a fs := by
  intro i f hf
  obtain ⟨b', o, e, c0, c1, sa, sc, c2, hv⟩ := h i f hf
  have hne := str_far hb hn c1
  have key : ∀ p, w'.cell? ⟨b', p, none⟩ = w.cell? ⟨b', p, none⟩ := fun p => World.cell?_of_block (w := w) (hk b' hne)
  exact ⟨b', o, e, (key _).trans c0, (key _).trans c1, sa, sc, (key _).trans c2, hv.far hb hn hk⟩
theorem noStr4 (a : Option Addr) (n c : Nat) (nx cp : Int) (sg : Bool) : NoStr #[.slice a n c, .int .i64 nx, .int .i64 cp, .bool sg] := by
  intro j s h
  rcases j with _ | _ | _ | _ | j <;> simp at h
theorem noStr6 (a : Option Addr) (n c : Nat) (nx cp : Int) (sg : Bool) (k t : Int) : NoStr #[.slice a n c, .int .i64 nx, .int .i64 cp, .bool sg, .int .i64 k, .int .i64 t] := by
  intro j s h
  rcases j with _ | _ | _ | _ | _ | _ | j <;> simp at h
/-- A store in its box. -/
def TB (w : World) (b : Nat) (a : Option Addr) (n c : Nat) (nx cp : Int) (sg : Bool) : Prop := w.heap[b]? = some (.cells #[.slice a n c, .int .i64 nx, .int .i64 cp, .bool sg] 26 (0, 0))
theorem TB.facts {w : World} {b : Nat} {a : Option Addr} {n c : Nat} {nx cp : Int} {sg : Bool} (h : TB w b a n c nx cp sg) : (w.cell? ⟨b, 0, none⟩ = some (.slice a n c) ∧ w.cell? ⟨b, 1, none⟩ = some (.int .i64 nx) ∧ w.cell? ⟨b, 2, none⟩ = some (.int .i64 cp) ∧ w.cell? ⟨b, 3, none⟩ = some (.bool sg)) ∧ (∀ j, w.frozen? ⟨b, j, none⟩ = false) ∧ b < w.heap.size := by
  unfold TB at h
  refine ⟨⟨?_, ?_, ?_, ?_⟩, fun j => ?_, lt_of_block' h⟩ <;> simp [World.cell?, World.frozen?, h]
/-- A change in its box. -/
def CB (w : World) (b : Nat) (r : C6) (a : Option Addr) (c : Nat) : Prop := w.heap[b]? = some (.cells #[.slice a r.fs.length c, .int .i64 r.nx, .int .i64 r.cp, .bool r.sg, .int .i64 r.code, .int .i64 r.tag] 33 (0, 0))
theorem CB.facts {w : World} {b : Nat} {r : C6} {a : Option Addr} {c : Nat} (h : CB w b r a c) : (w.cell? ⟨b, 0, none⟩ = some (.slice a r.fs.length c) ∧ w.cell? ⟨b, 1, none⟩ = some (.int .i64 r.nx) ∧ w.cell? ⟨b, 2, none⟩ = some (.int .i64 r.cp) ∧ w.cell? ⟨b, 3, none⟩ = some (.bool r.sg) ∧ w.cell? ⟨b, 4, none⟩ = some (.int .i64 r.code) ∧ w.cell? ⟨b, 5, none⟩ = some (.int .i64 r.tag)) ∧ (∀ j, w.frozen? ⟨b, j, none⟩ = false) ∧ b < w.heap.size := by
  unfold CB at h
  refine ⟨⟨?_, ?_, ?_, ?_, ?_, ?_⟩, fun j => ?_, lt_of_block' h⟩ <;> simp [World.cell?, World.frozen?, h]
theorem lift_tb {P : World → Prop} {w : World} {b : Nat} {a a' : Option Addr} {n c n' c' : Nat} {nx cp nx' cp' : Int} {sg sg' : Bool} (h0 : TB w b a n c nx cp sg) (h : ∀ wt, TB wt b a' n' c' nx' cp' sg' → Turned w wt b → P wt) : P ((((w.setCell ⟨b, 0, none⟩ (.slice a' n' c')).setCell ⟨b, 1, none⟩ (.int .i64 nx')).setCell ⟨b, 2, none⟩ (.int .i64 cp')).setCell ⟨b, 3, none⟩ (.bool sg')) := by
  have h1 := heap_setCell_same (i := 0) h0 (.slice a' n' c')
  have h2 := heap_setCell_same (i := 1) h1 (.int .i64 nx')
  have h3 := heap_setCell_same (i := 2) h2 (.int .i64 cp')
  have h4 := heap_setCell_same (i := 3) h3 (.bool sg')
  exact h _ (by simpa [TB] using h4) (Turned.setCells [.slice a' n' c', .int .i64 nx', .int .i64 cp', .bool sg'] 0 w b)
theorem lift_cb {P : World → Prop} {w : World} {b : Nat} {r r' : C6} {a a' : Option Addr} {c c' : Nat} (h0 : CB w b r a c) (h : ∀ wt, CB wt b r' a' c' → Turned w wt b → P wt) : P ((((((w.setCell ⟨b, 0, none⟩ (.slice a' r'.fs.length c')).setCell ⟨b, 1, none⟩ (.int .i64 r'.nx)).setCell ⟨b, 2, none⟩ (.int .i64 r'.cp)).setCell ⟨b, 3, none⟩ (.bool r'.sg)).setCell ⟨b, 4, none⟩ (.int .i64 r'.code)).setCell ⟨b, 5, none⟩ (.int .i64 r'.tag)) := by
  have h1 := heap_setCell_same (i := 0) h0 (.slice a' r'.fs.length c')
  have h2 := heap_setCell_same (i := 1) h1 (.int .i64 r'.nx)
  have h3 := heap_setCell_same (i := 2) h2 (.int .i64 r'.cp)
  have h4 := heap_setCell_same (i := 3) h3 (.bool r'.sg)
  have h5 := heap_setCell_same (i := 4) h4 (.int .i64 r'.code)
  have h6 := heap_setCell_same (i := 5) h5 (.int .i64 r'.tag)
  exact h _ (by simpa [CB] using h6) (Turned.setCells [.slice a' r'.fs.length c', .int .i64 r'.nx, .int .i64 r'.cp, .bool r'.sg, .int .i64 r'.code, .int .i64 r'.tag] 0 w b)
theorem lift4a {P : World → Prop} {w : World} {o1 o2 o3 o4 : Obj} (h : ∀ wt, Below w.heap.size w wt → wt.heap[w.heap.size]? = some o1 → wt.heap[w.heap.size + 1]? = some o2 → wt.heap[w.heap.size + 1 + 1]? = some o3 → wt.heap[w.heap.size + 1 + 1 + 1]? = some o4 → P wt) : P ((((w.alloc o1).alloc o2).alloc o3).alloc o4) := by
  refine h _ (((((Below.refl _ _).alloc (Nat.le_refl _) _).alloc (by simp) _).alloc (by simp; omega) _).alloc (by simp; omega) _) ?_ ?_ ?_ ?_
  · exact ((Below.heap_alloc _ _ _ (by simp; omega)).trans ((Below.heap_alloc _ _ _ (by simp; omega)).trans ((Below.heap_alloc _ _ _ (by simp)).trans (new_blk _ _ _ rfl))))
  · exact ((Below.heap_alloc _ _ _ (by simp)).trans ((Below.heap_alloc _ _ _ (by simp)).trans (new_blk _ _ _ (by simp))))
  · exact ((Below.heap_alloc _ _ _ (by simp)).trans (new_blk _ _ _ (by simp)))
  · exact new_blk _ _ _ (by simp)
theorem lift2a {P : World → Prop} {w : World} {o1 o2 : Obj} (h : ∀ wt, Below w.heap.size w wt → wt.heap[w.heap.size]? = some o1 → wt.heap[w.heap.size + 1]? = some o2 → P wt) : P ((w.alloc o1).alloc o2) :=
  h _ (((Below.refl _ _).alloc (Nat.le_refl _) _).alloc (by simp) _) ((Below.heap_alloc _ _ _ (by simp)).trans (new_blk _ _ _ rfl)) (new_blk _ _ _ (by simp))
def opR (k tag : Int) (cls : ByteArray) (vs : List V) (fs : List F) (nx cp : Int) (sg : Bool) : C6 := if k = 1 then asrt fs nx cp sg cls vs else if k = 2 then retr fs nx cp sg tag else mdfy fs nx cp sg tag vs
def aft (r : C6) (fs : List F) (nx cp : Int) (sg : Bool) : C6 := if r.code = 1 then ⟨fs, nx, cp, sg, 0, 0⟩ else r
end Go.Proofs.Ytgamdkokmkagaaa

namespace Go.Proofs.Ytgamdkokmkagaaa
open Go.RowKit
attribute [local go_sem ↓] Go.wp_at_zero Go.wp_at_succ
set_option maxRecDepth 100000 in
set_option maxHeartbeats 6400000 in
theorem after_any (k tag : Int) (cls : ByteArray) (sa : Option Addr) (sc : Nat) (vs : List V) (a : Option Addr) (c : Nat) (fs : List F) (nx cp : Int) (sg : Bool) (w : World) (hk : k = 1 ∨ k = 2 ∨ k = 3) (hv : FactsAt w a fs) (hsv : ValsAt w sa vs) (hc : fs.length ≤ c) (hl : fs.length ≤ 1048576) (hs : ∀ f ∈ fs, Sized f) (hcs : cls.size ≤ maxLen) (hvl : vs.length ≤ 1048576) (hvs : ∀ v ∈ vs, v.sym.size ≤ maxLen) :
    Calls Try.prog 16 #[storeV a c fs nx cp sg, .agg #[.int .i64 k, .int .i64 tag, .string cls, .slice sa vs.length sc]] w fun e w' => ∃ r : C6, r = aft (opR k tag cls vs fs nx cp sg) fs nx cp sg ∧ (∃ a' c', e = .returned (storeV a' c' r.fs r.nx r.cp r.sg) ∧ FactsAt w' a' r.fs ∧ r.fs.length ≤ c') ∧ Below w.heap.size w w' := by
  have HV := hidR hv
  have HSV := hidR hsv
  have HS := hidR hs
  have HVS := hidR hvs
  clear hv hsv hs hvs
  unfold storeV
  rcases hk with rfl | rfl | rfl
  · go_enter Try.func16, Try.ntmps16
    go_upto_region 2 with fail
    refine lift4a ?_
    intro w1 hB1 q0 q1 q2 q3
    have B1 := hidR hB1
    have S1 := hidR (show TB w1 w.heap.size a fs.length c nx cp sg from q0)
    have O1 := hidR (show OB w1 (w.heap.size + 1) _ _ _ _ from q1)
    have T1 := hidR (show TB w1 (w.heap.size + 1 + 1) none 0 0 0 0 false from q2)
    have C1 := hidR (show CB w1 (w.heap.size + 1 + 1 + 1) ⟨[], 0, 0, false, 1, 0⟩ none 0 from q3)
    clear hB1 q0 q1 q2 q3
    obtain ⟨⟨s0, s1, s2, s3⟩, _, _⟩ := S1.out.facts
    obtain ⟨⟨p0, p1, p2, p3⟩, _, _⟩ := O1.out.facts
    go_wp2_with fail
    refine (sAssert_cap a c fs nx cp sg cls sa sc vs w1 (HV.out.below B1.out) (HSV.out.below B1.out) hc hl HS.out hcs hvl HVS.out).mono ?_
    rintro e w2 ⟨⟨a2, c2, rfl, hF2, hcap2⟩, hb2⟩
    obtain ⟨R, hR⟩ : ∃ R, R = asrt fs nx cp sg cls vs := ⟨_, rfl⟩
    rw [← hR] at hF2 hcap2 ⊢
    have HR := hidR hR
    have F2 := hidR hF2
    have HC2 := hidR hcap2
    have S2 := hidR (show TB w2 w.heap.size a fs.length c nx cp sg from blk_below S1.out hb2)
    have T2 := hidR (show TB w2 (w.heap.size + 1 + 1) none 0 0 0 0 false from blk_below T1.out hb2)
    have C2 := hidR (show CB w2 (w.heap.size + 1 + 1 + 1) ⟨[], 0, 0, false, 1, 0⟩ none 0 from blk_below C1.out hb2)
    have B2 := hidR (B1.out.trans (hb2.mono B1.out.size))
    clear hR hF2 hcap2 hb2 s0 s1 s2 s3 p0 p1 p2 p3 S1 O1 T1 C1 B1
    obtain ⟨⟨x0, x1, x2, x3, x4, x5⟩, z, _⟩ := C2.out.facts
    have z0 := z 0
    have z1 := z 1
    have z2 := z 2
    have z3 := z 3
    have z4 := z 4
    have z5 := z 5
    clear z
    dsimp only [C6.val]
    go_upto_region 9 with fail
    refine lift_cb (r' := R) C2.out ?_
    intro w3 hC3 ht3
    have S3 := hidR (show TB w3 w.heap.size a fs.length c nx cp sg from blk_turned S2.out ht3 (by omega))
    have T3 := hidR (show TB w3 (w.heap.size + 1 + 1) none 0 0 0 0 false from blk_turned T2.out ht3 (by omega))
    have C3 := hidR (show CB w3 (w.heap.size + 1 + 1 + 1) R a2 c2 from hC3)
    have B3 := hidR (B2.out.trans (ht3.below (by omega)))
    have F3 := hidR (F2.out.far C2.out (noStr6 _ _ _ _ _ _ _ _) (fun k hk => ht3.block k hk))
    clear hC3 ht3 x0 x1 x2 x3 x4 x5 z0 z1 z2 z3 z4 z5 S2 T2 C2 B2 F2
    obtain ⟨⟨x0, x1, x2, x3, x4, x5⟩, _, _⟩ := C3.out.facts
    obtain ⟨⟨s0, s1, s2, s3⟩, _, _⟩ := S3.out.facts
    obtain ⟨⟨t0, t1, t2, t3⟩, z, _⟩ := T3.out.facts
    have z0 := z 0
    have z1 := z 1
    have z2 := z 2
    have z3 := z 3
    clear z
    have B4 := hidR (fun x0 x1 x2 x3 => (((B3.out.setCell (p := ⟨w.heap.size + 1 + 1, 0, none⟩) (by simp; omega) x0).setCell (p := ⟨w.heap.size + 1 + 1, 1, none⟩) (by simp; omega) x1).setCell (p := ⟨w.heap.size + 1 + 1, 2, none⟩) (by simp; omega) x2).setCell (p := ⟨w.heap.size + 1 + 1, 3, none⟩) (by simp; omega) x3)
    have K4 := hidR (fun (x0 x1 x2 x3 : Value) k (hk : k ≠ w.heap.size + 1 + 1) => (Turned.setCells [x0, x1, x2, x3] 0 w3 (w.heap.size + 1 + 1)).block k hk)
    by_cases hcode : R.code = 1
    · have hcb : (R.code == 1) = true := by simpa using hcode
      have HQ := hidR (show (⟨fs, nx, cp, sg, 0, 0⟩ : C6) = aft (opR 1 tag cls vs fs nx cp sg) fs nx cp sg by simp [aft, opR, ← HR.out, hcode])
      clear hcode
      go_wp2_with fail
      refine bodyPost_ret (v := .agg #[.slice a fs.length c, .int .i64 nx, .int .i64 cp, .bool sg]) (by simp [results, Try.results16, go_sem, t0, t1, t2, t3]) rfl ⟨⟨fs, nx, cp, sg, 0, 0⟩, HQ.out, ⟨a, c, rfl, ?_, hc⟩, B4.out _ _ _ _⟩
      exact ((HV.out.below B3.out).far T3.out (noStr4 _ _ _ _ _ _) (K4.out _ _ _ _))
    · have hcb : (R.code == 1) = false := by simpa using hcode
      have HQ := hidR (show R = aft (opR 1 tag cls vs fs nx cp sg) fs nx cp sg by simp [aft, opR, ← HR.out, hcode])
      clear hcode
      go_wp2_with fail
      refine bodyPost_ret (v := .agg #[.slice a2 R.fs.length c2, .int .i64 R.nx, .int .i64 R.cp, .bool R.sg]) (by simp [results, Try.results16, go_sem, t0, t1, t2, t3]) rfl ⟨R, HQ.out, ⟨a2, c2, rfl, ?_, HC2.out⟩, B4.out _ _ _ _⟩
      exact (F3.out.far T3.out (noStr4 _ _ _ _ _ _) (K4.out _ _ _ _))
  · go_enter Try.func16, Try.ntmps16
    go_upto_region 2 with fail
    refine lift4a ?_
    intro w1 hB1 q0 q1 q2 q3
    have B1 := hidR hB1
    have S1 := hidR (show TB w1 w.heap.size a fs.length c nx cp sg from q0)
    have O1 := hidR (show OB w1 (w.heap.size + 1) _ _ _ _ from q1)
    have T1 := hidR (show TB w1 (w.heap.size + 1 + 1) none 0 0 0 0 false from q2)
    have C1 := hidR (show CB w1 (w.heap.size + 1 + 1 + 1) ⟨[], 0, 0, false, 1, 0⟩ none 0 from q3)
    clear hB1 q0 q1 q2 q3
    obtain ⟨⟨s0, s1, s2, s3⟩, _, _⟩ := S1.out.facts
    obtain ⟨⟨p0, p1, p2, p3⟩, _, _⟩ := O1.out.facts
    go_wp2_with fail
    refine (sRetract_cap a c fs nx cp sg tag w1 (HV.out.below B1.out) hc hl HS.out).mono ?_
    rintro e w2 ⟨⟨a2, c2, rfl, hF2, hcap2⟩, hb2⟩
    obtain ⟨R, hR⟩ : ∃ R, R = retr fs nx cp sg tag := ⟨_, rfl⟩
    rw [← hR] at hF2 hcap2 ⊢
    have HR := hidR hR
    have F2 := hidR hF2
    have HC2 := hidR hcap2
    have S2 := hidR (show TB w2 w.heap.size a fs.length c nx cp sg from blk_below S1.out hb2)
    have T2 := hidR (show TB w2 (w.heap.size + 1 + 1) none 0 0 0 0 false from blk_below T1.out hb2)
    have C2 := hidR (show CB w2 (w.heap.size + 1 + 1 + 1) ⟨[], 0, 0, false, 1, 0⟩ none 0 from blk_below C1.out hb2)
    have B2 := hidR (B1.out.trans (hb2.mono B1.out.size))
    clear hR hF2 hcap2 hb2 s0 s1 s2 s3 p0 p1 p2 p3 S1 O1 T1 C1 B1
    obtain ⟨⟨x0, x1, x2, x3, x4, x5⟩, z, _⟩ := C2.out.facts
    have z0 := z 0
    have z1 := z 1
    have z2 := z 2
    have z3 := z 3
    have z4 := z 4
    have z5 := z 5
    clear z
    dsimp only [C6.val]
    go_upto_region 9 with fail
    refine lift_cb (r' := R) C2.out ?_
    intro w3 hC3 ht3
    have S3 := hidR (show TB w3 w.heap.size a fs.length c nx cp sg from blk_turned S2.out ht3 (by omega))
    have T3 := hidR (show TB w3 (w.heap.size + 1 + 1) none 0 0 0 0 false from blk_turned T2.out ht3 (by omega))
    have C3 := hidR (show CB w3 (w.heap.size + 1 + 1 + 1) R a2 c2 from hC3)
    have B3 := hidR (B2.out.trans (ht3.below (by omega)))
    have F3 := hidR (F2.out.far C2.out (noStr6 _ _ _ _ _ _ _ _) (fun k hk => ht3.block k hk))
    clear hC3 ht3 x0 x1 x2 x3 x4 x5 z0 z1 z2 z3 z4 z5 S2 T2 C2 B2 F2
    obtain ⟨⟨x0, x1, x2, x3, x4, x5⟩, _, _⟩ := C3.out.facts
    obtain ⟨⟨s0, s1, s2, s3⟩, _, _⟩ := S3.out.facts
    obtain ⟨⟨t0, t1, t2, t3⟩, z, _⟩ := T3.out.facts
    have z0 := z 0
    have z1 := z 1
    have z2 := z 2
    have z3 := z 3
    clear z
    have B4 := hidR (fun x0 x1 x2 x3 => (((B3.out.setCell (p := ⟨w.heap.size + 1 + 1, 0, none⟩) (by simp; omega) x0).setCell (p := ⟨w.heap.size + 1 + 1, 1, none⟩) (by simp; omega) x1).setCell (p := ⟨w.heap.size + 1 + 1, 2, none⟩) (by simp; omega) x2).setCell (p := ⟨w.heap.size + 1 + 1, 3, none⟩) (by simp; omega) x3)
    have K4 := hidR (fun (x0 x1 x2 x3 : Value) k (hk : k ≠ w.heap.size + 1 + 1) => (Turned.setCells [x0, x1, x2, x3] 0 w3 (w.heap.size + 1 + 1)).block k hk)
    by_cases hcode : R.code = 1
    · have hcb : (R.code == 1) = true := by simpa using hcode
      have HQ := hidR (show (⟨fs, nx, cp, sg, 0, 0⟩ : C6) = aft (opR 2 tag cls vs fs nx cp sg) fs nx cp sg by simp [aft, opR, ← HR.out, hcode])
      clear hcode
      go_wp2_with fail
      refine bodyPost_ret (v := .agg #[.slice a fs.length c, .int .i64 nx, .int .i64 cp, .bool sg]) (by simp [results, Try.results16, go_sem, t0, t1, t2, t3]) rfl ⟨⟨fs, nx, cp, sg, 0, 0⟩, HQ.out, ⟨a, c, rfl, ?_, hc⟩, B4.out _ _ _ _⟩
      exact ((HV.out.below B3.out).far T3.out (noStr4 _ _ _ _ _ _) (K4.out _ _ _ _))
    · have hcb : (R.code == 1) = false := by simpa using hcode
      have HQ := hidR (show R = aft (opR 2 tag cls vs fs nx cp sg) fs nx cp sg by simp [aft, opR, ← HR.out, hcode])
      clear hcode
      go_wp2_with fail
      refine bodyPost_ret (v := .agg #[.slice a2 R.fs.length c2, .int .i64 R.nx, .int .i64 R.cp, .bool R.sg]) (by simp [results, Try.results16, go_sem, t0, t1, t2, t3]) rfl ⟨R, HQ.out, ⟨a2, c2, rfl, ?_, HC2.out⟩, B4.out _ _ _ _⟩
      exact (F3.out.far T3.out (noStr4 _ _ _ _ _ _) (K4.out _ _ _ _))
  · go_enter Try.func16, Try.ntmps16
    go_upto_region 2 with fail
    refine lift4a ?_
    intro w1 hB1 q0 q1 q2 q3
    have B1 := hidR hB1
    have S1 := hidR (show TB w1 w.heap.size a fs.length c nx cp sg from q0)
    have O1 := hidR (show OB w1 (w.heap.size + 1) _ _ _ _ from q1)
    have T1 := hidR (show TB w1 (w.heap.size + 1 + 1) none 0 0 0 0 false from q2)
    have C1 := hidR (show CB w1 (w.heap.size + 1 + 1 + 1) ⟨[], 0, 0, false, 1, 0⟩ none 0 from q3)
    clear hB1 q0 q1 q2 q3
    obtain ⟨⟨s0, s1, s2, s3⟩, _, _⟩ := S1.out.facts
    obtain ⟨⟨p0, p1, p2, p3⟩, _, _⟩ := O1.out.facts
    go_wp2_with fail
    refine (sModify_cap a c fs nx cp sg tag sa sc vs w1 (HV.out.below B1.out) (HSV.out.below B1.out) hc hl HS.out hvl HVS.out).mono ?_
    rintro e w2 ⟨⟨a2, c2, rfl, hF2, hcap2⟩, hb2⟩
    obtain ⟨R, hR⟩ : ∃ R, R = mdfy fs nx cp sg tag vs := ⟨_, rfl⟩
    rw [← hR] at hF2 hcap2 ⊢
    have HR := hidR hR
    have F2 := hidR hF2
    have HC2 := hidR hcap2
    have S2 := hidR (show TB w2 w.heap.size a fs.length c nx cp sg from blk_below S1.out hb2)
    have T2 := hidR (show TB w2 (w.heap.size + 1 + 1) none 0 0 0 0 false from blk_below T1.out hb2)
    have C2 := hidR (show CB w2 (w.heap.size + 1 + 1 + 1) ⟨[], 0, 0, false, 1, 0⟩ none 0 from blk_below C1.out hb2)
    have B2 := hidR (B1.out.trans (hb2.mono B1.out.size))
    clear hR hF2 hcap2 hb2 s0 s1 s2 s3 p0 p1 p2 p3 S1 O1 T1 C1 B1
    obtain ⟨⟨x0, x1, x2, x3, x4, x5⟩, z, _⟩ := C2.out.facts
    have z0 := z 0
    have z1 := z 1
    have z2 := z 2
    have z3 := z 3
    have z4 := z 4
    have z5 := z 5
    clear z
    dsimp only [C6.val]
    go_upto_region 9 with fail
    refine lift_cb (r' := R) C2.out ?_
    intro w3 hC3 ht3
    have S3 := hidR (show TB w3 w.heap.size a fs.length c nx cp sg from blk_turned S2.out ht3 (by omega))
    have T3 := hidR (show TB w3 (w.heap.size + 1 + 1) none 0 0 0 0 false from blk_turned T2.out ht3 (by omega))
    have C3 := hidR (show CB w3 (w.heap.size + 1 + 1 + 1) R a2 c2 from hC3)
    have B3 := hidR (B2.out.trans (ht3.below (by omega)))
    have F3 := hidR (F2.out.far C2.out (noStr6 _ _ _ _ _ _ _ _) (fun k hk => ht3.block k hk))
    clear hC3 ht3 x0 x1 x2 x3 x4 x5 z0 z1 z2 z3 z4 z5 S2 T2 C2 B2 F2
    obtain ⟨⟨x0, x1, x2, x3, x4, x5⟩, _, _⟩ := C3.out.facts
    obtain ⟨⟨s0, s1, s2, s3⟩, _, _⟩ := S3.out.facts
    obtain ⟨⟨t0, t1, t2, t3⟩, z, _⟩ := T3.out.facts
    have z0 := z 0
    have z1 := z 1
    have z2 := z 2
    have z3 := z 3
    clear z
    have B4 := hidR (fun x0 x1 x2 x3 => (((B3.out.setCell (p := ⟨w.heap.size + 1 + 1, 0, none⟩) (by simp; omega) x0).setCell (p := ⟨w.heap.size + 1 + 1, 1, none⟩) (by simp; omega) x1).setCell (p := ⟨w.heap.size + 1 + 1, 2, none⟩) (by simp; omega) x2).setCell (p := ⟨w.heap.size + 1 + 1, 3, none⟩) (by simp; omega) x3)
    have K4 := hidR (fun (x0 x1 x2 x3 : Value) k (hk : k ≠ w.heap.size + 1 + 1) => (Turned.setCells [x0, x1, x2, x3] 0 w3 (w.heap.size + 1 + 1)).block k hk)
    by_cases hcode : R.code = 1
    · have hcb : (R.code == 1) = true := by simpa using hcode
      have HQ := hidR (show (⟨fs, nx, cp, sg, 0, 0⟩ : C6) = aft (opR 3 tag cls vs fs nx cp sg) fs nx cp sg by simp [aft, opR, ← HR.out, hcode])
      clear hcode
      go_wp2_with fail
      refine bodyPost_ret (v := .agg #[.slice a fs.length c, .int .i64 nx, .int .i64 cp, .bool sg]) (by simp [results, Try.results16, go_sem, t0, t1, t2, t3]) rfl ⟨⟨fs, nx, cp, sg, 0, 0⟩, HQ.out, ⟨a, c, rfl, ?_, hc⟩, B4.out _ _ _ _⟩
      exact ((HV.out.below B3.out).far T3.out (noStr4 _ _ _ _ _ _) (K4.out _ _ _ _))
    · have hcb : (R.code == 1) = false := by simpa using hcode
      have HQ := hidR (show R = aft (opR 3 tag cls vs fs nx cp sg) fs nx cp sg by simp [aft, opR, ← HR.out, hcode])
      clear hcode
      go_wp2_with fail
      refine bodyPost_ret (v := .agg #[.slice a2 R.fs.length c2, .int .i64 R.nx, .int .i64 R.cp, .bool R.sg]) (by simp [results, Try.results16, go_sem, t0, t1, t2, t3]) rfl ⟨R, HQ.out, ⟨a2, c2, rfl, ?_, HC2.out⟩, B4.out _ _ _ _⟩
      exact (F3.out.far T3.out (noStr4 _ _ _ _ _ _) (K4.out _ _ _ _))
end Go.Proofs.Ytgamdkokmkagaaa
