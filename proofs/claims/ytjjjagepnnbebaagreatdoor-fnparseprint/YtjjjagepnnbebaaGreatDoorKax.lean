/-
  OUR OWN TEXT. Sx10, Sx11, Sx12, Sx13, one behind the other.
-/
import Derived.Test.YtjjjagepnnbebaaGreatDoorKav
import Derived.WalkMore
import Derived.Test.YtjjjagepnnbebaaGreatDoorKaq
namespace Go.Proofs.YtjjjagepnnbebaaGreatDoor
open Go.RowKit
attribute [local go_sem ↓] Go.wp_at_zero Go.wp_at_succ

theorem set_same {cs : Array Value} {i : Nat} {v : Value} (h : cs[i]? = some v) : cs.setIfInBounds i v = cs := by
  apply Array.ext_getElem?
  intro j
  rw [Array.getElem?_setIfInBounds]
  by_cases hj : i = j
  · subst hj
    obtain ⟨h1, h2⟩ := Array.getElem?_eq_some_iff.1 h
    simp [h1, h2]
  · simp [hj]
theorem set_twice (cs : Array Value) (i : Nat) (u v : Value) : (cs.setIfInBounds i u).setIfInBounds i v = cs.setIfInBounds i v := by
  apply Array.ext_getElem?
  intro j
  by_cases hj : i = j
  · subst hj
    simp [Array.getElem?_setIfInBounds]
  · simp [hj]
theorem Turned.drew' {w w' : World} {b : Nat} (h : Turned w w' b) : Turned w w'.drew b := ⟨h.os, h.tape, h.output, h.size, h.block⟩
theorem Turned.trans' {w w' w'' : World} {b : Nat} (h : Turned w w' b) (g : Turned w' w'' b) : Turned w w'' b := ⟨g.os.trans h.os, g.tape.trans h.tape, g.output.trans h.output, g.size.trans h.size, fun k hk => (g.block k hk).trans (h.block k hk)⟩
theorem atOf_at {sb so n : Nat} {w : World} {t : TypeId} {cs : Array Value} (h : w.heap[sb]? = some (.cells (cs.setIfInBounds (so + 1) (.int .i64 (n : Int))) t (0, 0))) (hso : so + 1 < cs.size) : w.cell? ⟨sb, so + 1, none⟩ = some (.int .i64 (n : Int)) := by
  simp [World.cell?, h, hso]
theorem lineEnd_gt {src : Bs} {j : Nat} (h : src[j]? = some 59) : j < lineEnd src j ∧ lineEnd src j ≤ src.length := by
  have hj : j < src.length := (List.getElem?_eq_some_iff.1 h).1
  have e : src.drop j = 59 :: src.drop (j + 1) := by
    rw [List.drop_eq_getElem_cons hj, (List.getElem?_eq_some_iff.1 h).2]
  have h2 := run_le lineP (src.drop j)
  have h3 : 1 ≤ runOf lineP (src.drop j) := by
    rw [e]
    unfold runOf
    rw [List.takeWhile_cons_of_pos line59]
    simp
  rw [List.length_drop] at h2
  unfold lineEnd
  omega
def atOf (sb so : Nat) (w : World) : Nat := match w.cell? ⟨sb, so + 1, none⟩ with
  | some v => (intOf v).toNat
  | none => 0
theorem moved {sb so n j : Nat} {w : World} {t : TypeId} {cs : Array Value} (h : w.heap[sb]? = some (.cells (cs.setIfInBounds (so + 1) (.int .i64 (j : Int))) t (0, 0))) (v : Value) (hv : v = .int .i64 (n : Int)) : ((w.drew.drew).setCell ⟨sb, so + 1, none⟩ v).heap[sb]? = some (.cells (cs.setIfInBounds (so + 1) (.int .i64 (n : Int))) t (0, 0)) := by
  subst hv
  have := heap_setCell_same (w := w.drew.drew) (i := so + 1) h (.int .i64 (n : Int))
  rw [set_twice] at this
  exact this
theorem atOf_moved {sb so n j : Nat} {w : World} {t : TypeId} {cs : Array Value} (hso : so + 1 < cs.size) (h : w.heap[sb]? = some (.cells (cs.setIfInBounds (so + 1) (.int .i64 (j : Int))) t (0, 0))) (v : Value) (hv : v = .int .i64 (n : Int)) : atOf sb so ((w.drew.drew).setCell ⟨sb, so + 1, none⟩ v) = n := by
  unfold atOf
  rw [atOf_at (moved h v hv) hso]
  simp [intOf]
/-- What skip leaves: the offset of the next word. -/
def SkPost (src : Bs) (k sb so : Nat) (t : TypeId) (cs : Array Value) (w : World) (w' : World) : Prop := ∃ j, k ≤ j ∧ j ≤ src.length ∧ wordsAt src j = wordsAt src k ∧ (∀ x, src[j]? = some x → blankB x = false ∧ x ≠ 59) ∧ w'.heap[sb]? = some (.cells (cs.setIfInBounds (so + 1) (.int .i64 (j : Int))) t (0, 0)) ∧ Turned w w' sb
set_option maxRecDepth 100000 in
set_option maxHeartbeats 3200000 in
theorem skip_any (src : Bs) (a : Option Addr) (c sb so k : Nat) (t : TypeId) (cs : Array Value) (w : World) (hv : BysAt w a src) (hfar : ∀ b o, a = some ⟨b, o, none⟩ → b ≠ sb) (hl : src.length ≤ 20000) (hcap : src.length ≤ c) (hk : k ≤ src.length) (hb : w.heap[sb]? = some (.cells cs t (0, 0))) (h0 : cs[so]? = some (.slice a src.length c)) (h1 : cs[so + 1]? = some (.int .i64 (k : Int))) : Calls Tryz.prog 159 #[.pointer (some ⟨sb, so, none⟩)] w fun e w' => e = .returned (.tuple #[]) ∧ SkPost src k sb so t cs w w' := by
  have HV := hidX hv
  have HFAR := hidX hfar
  have HB := hidX hb
  have H0 := hidX h0
  have H1 := hidX h1
  have hso : so + 1 < cs.size := (Array.getElem?_eq_some_iff.1 h1).1
  clear hv hfar hb h0 h1
  go_enter Tryz.func159, Tryz.ntmps159
  go_step3
  go_wp2
  go_step3
  go_wp2
  go_loopw [2] (fun _ wr => ∃ j : Nat, k ≤ j ∧ j ≤ src.length ∧ wordsAt src j = wordsAt src k ∧ wr.heap[sb]? = some (.cells (cs.setIfInBounds (so + 1) (.int .i64 (j : Int))) t (0, 0)) ∧ Turned w wr sb) (fun _ wr => src.length - atOf sb so wr)
  case atStart => exact ⟨k, Nat.le_refl _, hk, rfl, by rw [set_same H1.out]; exact HB.out, ⟨rfl, rfl, rfl, rfl, fun _ _ => rfl⟩⟩
  case round =>
    obtain ⟨j, hkj, hj, hwd, hbr, htr⟩ := hrel
    have c0 : wr.cell? ⟨sb, so, none⟩ = some (.slice a src.length c) := by
      simp [World.cell?, hbr, H0.out]
    have c1 : wr.cell? ⟨sb, so + 1, none⟩ = some (.int .i64 (j : Int)) := by
      simp [World.cell?, hbr, hso]
    by_cases hjl : j < src.length
    · obtain ⟨x, hx⟩ : ∃ x, src[j]? = some x := ⟨src[j], by simp [hjl]⟩
      have hstep := wordsAt_step hx
      obtain ⟨b, o, rfl, hlt, hcw⟩ := HV.out j x hx
      have hbs : b ≠ sb := HFAR.out b o rfl
      have hc : wr.cell? ⟨b, o + j, none⟩ = some (.int .u8 (x.toNat : Int)) := (htr.cell hbs).trans hcw
      have z1 : wr.frozen? ⟨sb, so + 1, none⟩ = false := by simp [World.frozen?, hbr]
      have k0 : (0 : Int) ≤ (j : Int) := by omega
      have k1 : (j : Int) < (src.length : Int) := by omega
      have HBR := hidX hbr
      have HTR := hidX htr
      have HBL := hidX (isBlank_any x)
      have HM : Hid (atOf sb so wr = j) := show _ = _ from by unfold atOf; rw [c1]; simp [intOf]
      have hbv : BysAt wr (some ⟨b, o, none⟩) src := fun i y hy => by
        obtain ⟨b', o', e, h1, h2⟩ := HV.out i y hy
        exact ⟨b', o', e, by rw [HTR.out.size]; exact h1, (HTR.out.cell (HFAR.out b' o' e)).trans h2⟩
      have HBV := hidX hbv
      clear hcw hbr htr hlt hbv
      by_cases hbl : blankB x = true
      · rw [if_pos hbl] at hstep
        have HS : Hid (wordsAt src (j + 1) = wordsAt src k) := show _ = _ from by rw [← hstep, hwd]
        rw [hbl] at HBL
        clear hstep hbl hwd
        go_wp2_with fail
        go_region
        go_wp2_with fail
        go_region
        go_wp2_with (go_at_call 169; refine (HBL.out _).mono ?_; rintro e w1 ⟨rfl, hw⟩; rw [hw]; clear hw w1)
        go_roundw
        case rel => exact ⟨j + 1, by omega, by omega, HS.out, moved HBR.out _ (by go_num), HTR.out.drew'.drew'.trans' (Turned.setCells [_] (so + 1) _ sb)⟩
        case measure =>
          rw [HM.out]
          have e := atOf_moved (n := j + 1) hso HBR.out (.int .i64 ((j : Int) + 1)) (by go_num)
          change _ - atOf sb so ((wr.drew.drew).setCell ⟨sb, so + 1, none⟩ (.int .i64 ((j : Int) + 1))) < _
          rw [e]
          omega
      · have hbf : blankB x = false := by simpa using hbl
        rw [if_neg hbl] at hstep
        rw [hbf] at HBL
        by_cases h59 : x = 59
        · rw [if_pos h59] at hstep
          have HS : Hid (wordsAt src (lineEnd src j) = wordsAt src k) := show _ = _ from by unfold lineEnd; rw [← hstep, hwd]
          obtain ⟨hg1, hg2⟩ := lineEnd_gt (h59 ▸ hx)
          have he : ((x.toNat : Int) == 59) = true := by rw [h59]; rfl
          have HSC := hidX (skipComment_any src b o c sb so j t (cs.setIfInBounds (so + 1) (.int .i64 (j : Int))) wr.drew.drew (fun i y hy => HBV.out i y hy) hl hcap hjl HBR.out (by simp [H0.out]) (by simp [hso]))
          clear hstep hbl hbf hwd h59
          go_wp2_with fail
          go_region
          go_wp2_with fail
          go_region
          go_wp2_with (first | (go_at_call 169; refine (HBL.out _).mono ?_; rintro e w1 ⟨rfl, hw⟩; rw [hw]; clear hw w1) | (go_at_call 170; refine HSC.out.mono ?_; rintro e w1 ⟨rfl, hb1, ht1⟩) | fail)
          rw [set_twice] at hb1
          go_roundw
          case rel => exact ⟨lineEnd src j, by omega, hg2, HS.out, hb1, HTR.out.drew'.drew'.trans' ht1⟩
          case measure =>
            rw [HM.out, show atOf sb so w1 = lineEnd src j by unfold atOf; rw [atOf_at hb1 hso]; simp [intOf]]
            omega
        · have he : ((x.toNat : Int) == 59) = false := beqF fun h => h59 (byteN.1 (by rw [h]; rfl))
          clear hstep hbl
          go_wp2_with fail
          go_region
          go_wp2_with fail
          go_region
          go_wp2_with (go_at_call 169; refine (HBL.out _).mono ?_; rintro e w1 ⟨rfl, hw⟩; rw [hw]; clear hw w1)
          rw [Exit.noGoto_normal]
          refine bodyPost_end (results_none rfl _ _ _) rfl ⟨rfl, j, hkj, hj, hwd, fun y hy => ?_, HBR.out, HTR.out.drew'.drew'⟩
          rw [hx] at hy
          injection hy with hy
          subst hy
          exact ⟨hbf, h59⟩
    · obtain rfl : j = src.length := by omega
      have j1 : ¬ (src.length : Int) < (src.length : Int) := by omega
      go_wp2_with fail
      go_region
      go_wp2
      rw [Exit.noGoto_normal]
      refine bodyPost_end (results_none rfl _ _ _) rfl ⟨rfl, src.length, hkj, Nat.le_refl _, hwd, fun x hx => ?_, hbr, htr.drew'⟩
      rw [List.getElem?_eq_none (Nat.le_refl _)] at hx
      cases hx
end Go.Proofs.YtjjjagepnnbebaaGreatDoor

namespace Go.Proofs.YtjjjagepnnbebaaGreatDoor
open Go.RowKit
attribute [local go_sem ↓] Go.wp_at_zero Go.wp_at_succ

theorem cells4X {w : World} {b : Nat} {k pos : Int} {t : Bs} {n : Int} {ty : TypeId} (h : w.heap[b]? = some (.cells (pwL k pos t n).toArray ty (0, 0))) : w.cell? ⟨b, 0, none⟩ = some (.int .i32 k) ∧ w.cell? ⟨b, 1, none⟩ = some (.int .i64 pos) ∧ w.cell? ⟨b, 2, none⟩ = some (.string (mkS t)) ∧ w.cell? ⟨b, 3, none⟩ = some (.int .i64 n) := by
  refine ⟨?_, ?_, ?_, ?_⟩ <;> simp [World.cell?, h, pwL]
set_option maxHeartbeats 1600000 in
theorem wfault_any (k pos : Int) (t : Bs) (n code : Int) (w : World) : Calls Tryz.prog 93 #[pwV k pos t n, .int .i64 code] w fun e w' => e = .returned (.agg #[.int .i64 code, .int .i64 pos]) ∧ Below w.heap.size w w' := by
  unfold pwV
  go_enter Tryz.func93, Tryz.ntmps93
  go_wp2
  exact bodyPost_ret (v := .agg #[.int .i64 code, .int .i64 pos]) (by simp [results, Tryz.results93, go_sem]) rfl ⟨rfl, ((Below.refl _ _).alloc (Nat.le_refl _) _).alloc (by simp) _⟩
/-- A word's value. -/
def wVal (k n : Int) (t : Bs) : V := if k = 48 then (0, n, mkS []) else (1, 0, mkS t)
set_option maxHeartbeats 1600000 in
theorem wvalue_any (k pos : Int) (t : Bs) (n : Int) (w : World) : Calls Tryz.prog 133 #[pwV k pos t n] w fun e w' => e = .returned (.agg (wVal k n t).cells.toArray) ∧ Below w.heap.size w w' := by
  unfold pwV
  by_cases hk : k = 48
  · have h1 : (k == 48) = true := by simpa using hk
    go_enter Tryz.func133, Tryz.ntmps133
    go_wp2
    exact bodyPost_ret (v := .agg #[.int .i64 0, .int .i64 n, .string ⟨#[]⟩]) (by simp [results, Tryz.results133, go_sem]) rfl ⟨by simp [wVal, hk, V.cells, V.kind, V.num, V.sym, mkS], ((Below.refl _ _).alloc (Nat.le_refl _) _).alloc (by simp) _⟩
  · have h1 : (k == 48) = false := by simpa using hk
    go_enter Tryz.func133, Tryz.ntmps133
    go_wp2
    exact bodyPost_ret (v := .agg #[.int .i64 1, .int .i64 0, .string (mkS t)]) (by simp [results, Tryz.results133, go_sem]) rfl ⟨by simp [wVal, hk, V.cells, V.kind, V.num, V.sym], ((Below.refl _ _).alloc (Nat.le_refl _) _).alloc (by simp) _⟩
end Go.Proofs.YtjjjagepnnbebaaGreatDoor

namespace Go.Proofs.YtjjjagepnnbebaaGreatDoor
open Go.RowKit
attribute [local go_sem ↓] Go.wp_at_zero Go.wp_at_succ

/-- The scanner in cells so, so + 1 of block sb, ahead of the words l. -/
structure ScAt (w : World) (sb so : Nat) (t : TypeId) (cs : Array Value) (src : Bs) (a : Option Addr) (c : Nat) (l : List Wd) : Prop where
  blk : w.heap[sb]? = some (.cells cs t (0, 0))
  src0 : cs[so]? = some (.slice a src.length c)
  cap : src.length ≤ c
  len : src.length ≤ 20000
  bys : BysAt w a src
  far : ∀ b o, a = some ⟨b, o, none⟩ → b < sb
  pos : ∃ k : Nat, k ≤ src.length ∧ cs[so + 1]? = some (.int .i64 (k : Int)) ∧ wordsAt src k = l
/-- What the scanner asks of the program's own variables. -/
structure EnvAt (w : World) (sb : Nat) : Prop where
  err : ErrAt w
  tests : TestsAt w 1 1
  g1 : 1 < sb
  g2 : 7 < sb
theorem ErrAt.keep {w w' : World} {B : Nat} (h : ErrAt w) (hg : 7 < B) (hb : Below B w w') : ErrAt w' := by
  obtain ⟨tp, p, h⟩ := h
  exact ⟨tp, p, var?_below hb errNamed hg h⟩
theorem TestsAt.keep {w w' : World} {B : Nat} (h : TestsAt w 1 1) (hg : 1 < B) (hb : Below B w w') : TestsAt w' 1 1 := fun k hk => by
  rw [← h k hk]
  exact World.cell?_of_block (w := w) (hb.block _ hg)
theorem BysAt.keep {w w' : World} {a : Option Addr} {src : Bs} {B : Nat} (h : BysAt w a src) (hf : ∀ b o, a = some ⟨b, o, none⟩ → b < B) (hb : Below B w w') : BysAt w' a src := fun i y hy => by
  obtain ⟨b, o, e, h1, h2⟩ := h i y hy
  exact ⟨b, o, e, Nat.lt_of_lt_of_le h1 hb.size, (World.cell?_of_block (w := w) (hb.block b (hf b o e))).trans h2⟩
theorem EnvAt.keep {w w' : World} {sb : Nat} (h : EnvAt w sb) (hb : Below sb w w') : EnvAt w' sb := ⟨h.err.keep h.g2 hb, h.tests.keep h.g1 hb, h.g1, h.g2⟩
def fltE (f : Flt) : Ending := .panicked [{ v := .iface 48 (.agg #[.int .i64 f.1, .int .i64 (f.2 : Int)]), recovered := false }]
def NxPost (w : World) (sb so : Nat) (t : TypeId) (cs : Array Value) (src : Bs) (a : Option Addr) (c : Nat) (r : Px Wd) (e : Ending) (w' : World) : Prop := MkO (some sb) w w' ∧ match r with
  | .error f => e = fltE f
  | .ok (x, l) => e = .returned (pwV (pkW x) x.pos (ptW x) x.num) ∧ ∃ j : Nat, ScAt w' sb so t (cs.setIfInBounds (so + 1) (.int .i64 (j : Int))) src a c l
theorem Turned.mko {w w' : World} {b : Nat} (h : Turned w w' b) : MkO (some b) w w' := ⟨h.below (Nat.zero_le _), fun g _ hg => h.block g (fun e => hg (by rw [e]))⟩
theorem MkO.bel {w w' : World} {sb : Nat} (h : MkO (some sb) w w') (hs : sb < w.heap.size) : Below sb w w' := h.below (by omega) (fun g e => by cases e; exact Nat.le_refl _)
theorem MkO.turn {b : Option Nat} {w w2 w3 : World} {r : Nat} (h : MkO b w w2) (ht : Turned w2 w3 r) (hr : w.heap.size ≤ r) : MkO b w w3 :=
  ⟨h.rest.trans (ht.below (Nat.zero_le _)), fun g hg hb => (ht.block g (by omega)).trans (h.block g hg hb)⟩
theorem MkO.drew {b : Option Nat} {w w' : World} (h : MkO b w w') : MkO b w w'.drew := ⟨h.rest.drew, h.block⟩
theorem lift_setW {P : World → Prop} {w : World} {b i : Nat} {v : Value} {cs : Array Value} {t : TypeId} (h : w.heap[b]? = some (.cells cs t (0, 0))) (hP : ∀ wt, wt.heap[b]? = some (.cells (cs.setIfInBounds i v) t (0, 0)) → Turned w wt b → P wt) : P (w.setCell ⟨b, i, none⟩ v) := hP _ (heap_setCell_same h _) (Turned.setCells [_] i w b)
theorem lift_allocD {P : World → Prop} {w1 : World} {o : Obj} (h : ∀ wt, Below w1.heap.size w1 wt → wt.heap[w1.heap.size]? = some o → P wt) : P (w1.alloc o).drew.drew := h _ ((Below.refl _ _).alloc (Nat.le_refl _) _).drew.drew (heap_alloc_new _ _)
theorem step_store_blk {P : Program} {w : World} {ops : Array Oper} {o : Oper} {a : Act} {K : Act → World → Prop} {Q : Exit → Act → World → Prop} {E : Prop} (hgd : o.guard = none) (ty : TypeId) (x y : Operand) (ho : o.op = .store ty x y)
    (b : Nat) (L : List Value) (hx : a.eval x = .pointer (some ⟨b, 0, none⟩)) (hy : a.eval y = .agg L.toArray) (c : Array Value) (t : TypeId) (hb : w.heap[b]? = some (.cells c t (0, 0)))
    (hs : c.size = L.length) (hi : (P.info? ty).map (·.size) = some L.length) (h1 : ∀ v ∈ L, v.oneCell' = true)
    (h : ∀ w', Hid (w'.heap[b]? = some (.cells L.toArray t (0, 0))) → Hid (Turned w w' b) → K (a.put o.dst undef) w') :
    if Region.wanted o (yielded ops a.tmps) = true then Oper.wp P o a w K Q else E := by
  have hw : Region.wanted o (yielded ops a.tmps) = true := by simp [Region.wanted, hgd]
  rw [if_pos hw]
  refine wp_store_mid ty x y ho b 0 L.toArray hx hy (there_blk hb (by simp; omega)) (by simpa using hi) (all_oneCell_toArray h1) (h _ ?_ (Turned.setCells _ _ _ _))
  show _ = _
  have := heap_setCells_splice hb (o := 0) L (by omega)
  rw [this]
  have hd : c.toList.drop (0 + L.length) = [] := List.drop_eq_nil_of_le (by simp; omega)
  rw [hd]
  simp
theorem ScAt.moved {w w' : World} {sb so j : Nat} {t : TypeId} {cs : Array Value} {src : Bs} {a : Option Addr} {c : Nat} {l l' : List Wd} (h : ScAt w sb so t cs src a c l) (hm : MkO (some sb) w w') (hb : w'.heap[sb]? = some (.cells (cs.setIfInBounds (so + 1) (.int .i64 (j : Int))) t (0, 0))) (hj : j ≤ src.length) (hw : wordsAt src j = l') : ScAt w' sb so t (cs.setIfInBounds (so + 1) (.int .i64 (j : Int))) src a c l' := by
  obtain ⟨k, _, hk, _⟩ := h.pos
  have hso : so + 1 < cs.size := (Array.getElem?_eq_some_iff.1 hk).1
  refine ⟨hb, ?_, h.cap, h.len, h.bys.keep h.far (hm.bel (lt_of_block' h.blk)), h.far, j, hj, ?_, hw⟩
  · rw [Array.getElem?_setIfInBounds_ne (by omega)]
    exact h.src0
  · simp [hso]
theorem set_at {sb so n j : Nat} {w : World} {t : TypeId} {cs : Array Value} (h : w.heap[sb]? = some (.cells (cs.setIfInBounds (so + 1) (.int .i64 (j : Int))) t (0, 0))) (v : Value) (hv : v = .int .i64 (n : Int)) : (w.setCell ⟨sb, so + 1, none⟩ v).heap[sb]? = some (.cells (cs.setIfInBounds (so + 1) (.int .i64 (n : Int))) t (0, 0)) := by
  subst hv
  have := heap_setCell_same (i := so + 1) h (.int .i64 (n : Int))
  rw [set_twice] at this
  exact this
theorem nextW_cons {x : Wd} {r : List Wd} (h : badW x = none) (h0 : x.kind ≠ 0) : nextW (x :: r) = .ok (x, r) := by
  show (match badW x with | some f => Except.error f | none => Except.ok (x, if x.kind = 0 then x :: r else r)) = _
  rw [h]
  simp [h0]
theorem wordB_not {x : UInt8} (h : wordB x = false) (h1 : ¬ x = 59) (h2 : ¬ x = 40) (h3 : ¬ x = 41) : x.toNat < 33 ∨ 126 < x.toNat := by
  apply Classical.byContradiction
  intro h4
  rw [wordB_of h1 h2 h3 h4] at h
  cases h
theorem wordB_yes {x : UInt8} (h : wordB x = true) : ¬ (x.toNat < 33 ∨ 126 < x.toNat) := by
  unfold wordB at h
  simp at h
  omega
set_option maxRecDepth 100000 in
set_option maxHeartbeats 12800000 in
theorem scNext_any (w : World) (sb so : Nat) (t : TypeId) (cs : Array Value) (src : Bs) (a : Option Addr) (c : Nat) (l : List Wd) (h : ScAt w sb so t cs src a c l) (hE : EnvAt w sb) : Calls Tryz.prog 132 #[.pointer (some ⟨sb, so, none⟩)] w (NxPost w sb so t cs src a c (nextW l)) := by
  have HE := hidX hE
  have HL := hidX h
  obtain ⟨hblk, hsrc, hcap, hlen, hbys, hfar, k, hkl, hk, hwl⟩ := h
  have hsb : sb < w.heap.size := lt_of_block' hblk
  have hso : so + 1 < cs.size := (Array.getElem?_eq_some_iff.1 hk).1
  clear hE
  go_enter Tryz.func132, Tryz.ntmps132
  go_upto_region 1 with fail
  refine lift_alloc ?_
  intro w1 hW1 hq1
  have HSK := hidX (skip_any src a c sb so k t cs w1 (hbys.below hW1) (fun b o e => Nat.ne_of_lt (hfar b o e)) hlen hcap hkl ((hW1.block sb hsb).trans hblk) hsrc hk)
  have HW1 := hidX hW1
  have hrb : w.heap.size < w1.heap.size := lt_of_block' hq1
  obtain ⟨Z, hZ⟩ : ∃ Z : Array Value, Z = #[.int .i32 0, .int .i64 0, .string ⟨#[]⟩, .int .i64 0] := ⟨_, rfl⟩
  rw [← hZ] at hq1
  have hZs : Z.size = 4 := by rw [hZ]; rfl
  have HQ1 := hidX hq1
  have HWL := hidX hwl
  clear hW1 hq1 hblk hbys hk hkl hwl hZ
  go_upto_region 2 with (first | (go_at_call 159; refine HSK.out.mono ?_; rintro e w2 ⟨rfl, j, hkj, hjl, hwj, hnb, hb2, ht2⟩) | fail)
  have M2 := hidX ((MkO.of_below HW1.out : MkO (some sb) w w1).trans ht2.mko)
  have hq2 := (ht2.block w.heap.size (by omega)).trans HQ1.out
  have hs2 : w.heap.size < w2.heap.size := lt_of_block' hq2
  have HB2 := hidX hb2
  have HJ := hidX (hwj.trans HWL.out)
  have c0 : w2.cell? ⟨sb, so, none⟩ = some (.slice a src.length c) := by simp [World.cell?, hb2, hsrc]
  have c1 : w2.cell? ⟨sb, so + 1, none⟩ = some (.int .i64 (j : Int)) := by simp [World.cell?, hb2, hso]
  have z1 : w2.frozen? ⟨sb, so + 1, none⟩ = false := by simp [World.frozen?, hb2]
  have HBY := hidX (HL.out.bys.keep HL.out.far (M2.out.bel hsb))
  clear hb2 ht2 HSK hwj
  by_cases hje : j = src.length
  · subst hje
    have hl0 : l = [⟨0, src.length, [], 0⟩] := by rw [← HJ.out, wordsAt_end]
    have e1 : ((src.length : Int) == (src.length : Int)) = true := by simp
    go_wp2_with (first | (refine wpList_store_blk (by rfl) 131 (.tmp 2) (.tmp 20) (by rfl) w.heap.size (pwL 0 (src.length : Int) [] 0) (by rfl) (by rfl) _ 131 hq2 hZs infoPW (pwL_one _ _ _ _) ?_; intro w3 hb3 ht3) | fail)
    have hld := run_loadVar_mid (P := Tryz.prog) w3 w.heap.size 0 131 (pwL 0 (src.length : Int) [] 0) _ (range_blk hb3.out) Tryz.underlying131 rfl infoPW
    have M3 := M2.out.turn ht3.out (Nat.le_refl _)
    go_frame
    refine bodyPost_ret (v := .agg (pwL 0 (src.length : Int) [] 0).toArray) (by simp [results, Tryz.results132, asAddr, hld]) rfl ⟨M3, ?_⟩
    rw [hl0]
    exact ⟨rfl, src.length, HL.out.moved M3 ((ht3.out.block sb (by omega)).trans HB2.out) (Nat.le_refl _) (wordsAt_end src)⟩
  · have hjl' : j < src.length := by omega
    obtain ⟨x, hx⟩ : ∃ x, src[j]? = some x := ⟨src[j], by simp [hjl']⟩
    obtain ⟨hnb1, hnb2⟩ := hnb x hx
    have hst := wordsAt_step hx
    rw [if_neg (by simp [hnb1]), if_neg hnb2, HJ.out] at hst
    obtain ⟨b, o, rfl, hlt, hcw⟩ := HBY.out j x hx
    have e1 : ((j : Int) == (src.length : Int)) = false := beqF (by omega)
    have k0 : (0 : Int) ≤ (j : Int) := by omega
    have k1 : (j : Int) < (src.length : Int) := by omega
    by_cases h40 : x = 40 ∨ x = 41
    · have HN : ∃ d : Wd, Hid (nextW l = .ok (d, wordsAt src (j + 1))) ∧ Hid (pwV (pkW d) d.pos (ptW d) d.num = .agg (pwL (x.toNat : Int) (j : Int) [] 0).toArray) := by
        rcases h40 with h | h
        · refine ⟨⟨1, j, [], 0⟩, ?_, ?_⟩
          · show nextW l = _
            rw [hst, if_pos h]
            rfl
          · subst h
            rfl
        · refine ⟨⟨2, j, [], 0⟩, ?_, ?_⟩
          · show nextW l = _
            rw [hst, if_neg (by rw [h]; decide), if_pos h]
            rfl
          · subst h
            rfl
      obtain ⟨d, HN, HD⟩ := HN
      have hcnv : IntKind.i32.wrap (x.toNat : Int) = (x.toNat : Int) := by rw [IntKind.wrap_i32]; have := x.toNat_lt; omega
      have hor : ((x.toNat : Int) == 40) = true ∨ (((x.toNat : Int) == 40) = false ∧ ((x.toNat : Int) == 41) = true) := by
        rcases h40 with h | h
        · left; subst h; rfl
        · right; subst h; exact ⟨rfl, rfl⟩
      clear h40 hst hnb hnb1 hnb2 HJ
      have hxn : ∃ X : Int, X = (x.toNat : Int) := ⟨_, rfl⟩
      obtain ⟨X, hX⟩ := hxn
      rw [← hX] at hcnv hor hcw HD
      clear hX
      rcases hor with e2 | ⟨e2, e3⟩
      all_goals
        go_upto_region 8 with fail
        refine lift_setW HB2.out ?_
        intro w4 hb4 ht4
        rw [set_twice] at hb4
        have hq4 := (ht4.block w.heap.size (by omega)).trans hq2
        have M4 := hidX (M2.out.trans ht4.mko)
        have HB4 := hidX hb4
        clear hb4 ht4 c0 c1 z1 hcw
        go_wp2_with (first | (refine wpList_store_blk (by rfl) 131 (.tmp 2) (.tmp 44) (by rfl) w.heap.size (pwL X (j : Int) [] 0) (by rfl) (by rfl) _ 131 hq4 hZs infoPW (pwL_one _ _ _ _) ?_; intro w3 hb3 ht3) | fail)
        have hld := run_loadVar_mid (P := Tryz.prog) w3 w.heap.size 0 131 (pwL X (j : Int) [] 0) _ (range_blk hb3.out) Tryz.underlying131 rfl infoPW
        have M3 := M4.out.turn ht3.out (Nat.le_refl _)
        go_frame
        refine bodyPost_ret (v := .agg (pwL X (j : Int) [] 0).toArray) (by simp [results, Tryz.results132, asAddr, hld]) rfl ⟨M3, ?_⟩
        rw [HN.out]
        exact ⟨by rw [HD.out], j + 1, HL.out.moved M3 ((ht3.out.block sb (by omega)).trans (by rw [HB4.out]; rfl)) (by omega) rfl⟩
    · have h40a : ¬ x = 40 := fun e => h40 (.inl e)
      have h41a : ¬ x = 41 := fun e => h40 (.inr e)
      rw [if_neg h40a, if_neg h41a] at hst
      have e2 : ((x.toNat : Int) == 40) = false := beqF fun e => h40a (byteN.1 (by rw [e]; rfl))
      have e3 : ((x.toNat : Int) == 41) = false := beqF fun e => h41a (byteN.1 (by rw [e]; rfl))
      have HST := hidX hst
      clear hst hnb hnb1 h40
      go_upto_region 9 with fail
      clear e1 e2 e3 c0 c1 z1 hcw k0 k1
      go_loopw [45] (fun _ wr => ∃ i : Nat, j ≤ i ∧ i ≤ src.length ∧ (∀ m y, j ≤ m → m < i → src[m]? = some y → wordB y = true) ∧ wr.heap[sb]? = some (.cells (cs.setIfInBounds (so + 1) (.int .i64 (i : Int))) t (0, 0)) ∧ Turned w2 wr sb) (fun _ wr => src.length - atOf sb so wr)
      case atStart => exact ⟨j, Nat.le_refl _, hjl, fun m y h1 h2 => absurd h1 (by omega), HB2.out, ⟨rfl, rfl, rfl, rfl, fun _ _ => rfl⟩⟩
      case round =>
        obtain ⟨i, hji, hil, hall, hbr, htr⟩ := hrel
        have d0 : wr.cell? ⟨sb, so, none⟩ = some (.slice (some ⟨b, o, none⟩) src.length c) := by simp [World.cell?, hbr, hsrc]
        have d1 : wr.cell? ⟨sb, so + 1, none⟩ = some (.int .i64 (i : Int)) := by simp [World.cell?, hbr, hso]
        have z1 : wr.frozen? ⟨sb, so + 1, none⟩ = false := by simp [World.frozen?, hbr]
        have HBR := hidX hbr
        have HTR := hidX htr
        have HALL := hidX hall
        have HM : Hid (atOf sb so wr = i) := show _ = _ from by unfold atOf; rw [d1]; simp [intOf]
        have MR := hidX (M2.out.trans htr.mko)
        have hqr := (htr.block w.heap.size (by omega)).trans hq2
        have hsr : w2.heap.size = wr.heap.size := htr.size.symm
        clear hbr htr hall
        by_cases hie : i < src.length
        · obtain ⟨y, hy⟩ : ∃ y, src[i]? = some y := ⟨src[i], by simp [hie]⟩
          obtain ⟨b', o', eb, hlt', hcy'⟩ := HBY.out i y hy
          simp only [Option.some.injEq, Addr.mk.injEq, and_true] at eb
          obtain ⟨rfl, rfl⟩ := eb
          have hcy : wr.cell? ⟨b, o + i, none⟩ = some (.int .u8 (y.toNat : Int)) := (HTR.out.cell (Nat.ne_of_lt (hfar b o rfl))).trans hcy'
          have k0 : (0 : Int) ≤ (i : Int) := by omega
          have k1 : (i : Int) < (src.length : Int) := by omega
          have HIW := hidX (inWord_any y)
          clear hcy' hlt'
          cases hyw : wordB y with
          | true =>
            rw [hyw] at HIW
            go_wp2_with fail
            refine wp_region_noPanic ?_
            refine wp_region_held_drew (S := (fun u => u.cell? ⟨sb, so, none⟩ = some (.slice (some ⟨b, o, none⟩) src.length c) ∧ u.cell? ⟨sb, so + 1, none⟩ = some (.int .i64 (i : Int)) ∧ u.cell? ⟨b, o + i, none⟩ = some (.int .u8 (y.toNat : Int)))) (by kernel_rfl) ?_ (fun hHeld => ?_)
            · (try dsimp only)
              (exact ⟨d0, d1, hcy⟩)
            refine tk 0 hHeld ?_
            (try simp only [pA, pZ, pS])
            refine tk 1 hHeld ?_
            (try simp only [pA, pZ, pS])
            refine tk 2 hHeld ?_
            (try simp only [pA, pZ, pS])
            refine tk 3 hHeld ?_
            (try simp only [pA, pZ, pS])
            refine tk 4 hHeld ?_
            (try simp only [pA, pZ, pS])
            refine tk 5 hHeld ?_
            (try simp only [pA, pZ, pS])
            refine tk 6 hHeld ?_
            (try simp only [pA, pZ, pS])
            refine tk 7 hHeld ?_
            (try simp only [pA, pZ, pS])
            refine tk 8 hHeld ?_
            (try simp only [pA, pZ, pS])
            refine tk 9 hHeld ?_
            (try simp only [pA, pZ, pS])
            refine tk 10 hHeld ?_
            (try simp only [pA, pZ, pS])
            refine tk 11 hHeld ?_
            (try simp only [pA, pZ, pS])
            refine tk 12 hHeld ?_
            (try simp only [pA, pZ, pS])
            refine tk 13 hHeld ?_
            (try simp only [pA, pZ, pS])
            refine tk 14 hHeld ?_
            (try simp only [pA, pZ, pS])
            refine tk 15 hHeld ?_
            (try simp only [pA, pZ, pS])
            refine tk 16 hHeld ?_
            (try simp only [pA, pZ, pS])
            refine tk 17 hHeld ?_
            (try simp only [pA, pZ, pS])
            refine tk 18 hHeld ?_
            (try simp only [pA, pZ, pS])
            refine tk 19 hHeld ?_
            (try simp only [pA, pZ, pS])
            refine tk 20 hHeld ?_
            (try simp only [pA, pZ, pS])
            refine wpAnyH_ready (rs := [21]) (by kernel_rfl) (by simp) ?_
            refine AllReadyH.cons (o := ?o1) ?ho1 (fun K hK => ?step1) AllReadyH.nil
            case ho1 => (simp only [List.getElem?_toArray, List.getElem?_cons_succ, List.getElem?_cons_zero]; rfl)
            go_simp
            (go_at_call 160; refine (HIW.out _).mono ?_; rintro e w5 ⟨rfl, hw⟩; rw [hw]; clear hw w5)
            (try go_wp2_with fail)
            refine hK.out _ _ ?hS1 (fun hHeld' => ?rest1)
            case hS1 => ((try dsimp only); (exact ⟨d0, d1, hcy⟩))
            clear hK K
            (first | simp only [pA, pZ, pS] | simp only [pN] | skip)
            clear hHeld
            have hHeld := hHeld'
            clear hHeld'
            refine tk 22 hHeld ?_
            (try simp only [pA, pZ, pS])
            refine wpAnyH_done (by kernel_rfl) ?_ _
            refine NoPanic.normal ?_
            go_wp2_with fail
            go_roundw
            case rel =>
              refine ⟨i + 1, by omega, by omega, fun m y' h1 h2 h3 => ?_, set_at HBR.out _ (by go_num), HTR.out.drew'.trans' (Turned.setCells [_] (so + 1) _ sb)⟩
              by_cases hmi : m = i
              · subst hmi
                rw [hy] at h3
                injection h3 with h3
                rw [← h3]
                exact hyw
              · exact HALL.out m y' h1 (by omega) h3
            case measure =>
              have e : atOf sb so ((wr.drew).setCell ⟨sb, so + 1, none⟩ (.int .i64 ((i : Int) + 1))) = i + 1 := by
                unfold atOf
                rw [atOf_at (set_at (n := i + 1) (w := wr.drew) HBR.out _ (by go_num)) hso]
                simp [intOf]
              rw [HM.out]
              change _ - atOf sb so ((wr.drew).setCell ⟨sb, so + 1, none⟩ (.int .i64 ((i : Int) + 1))) < _
              rw [e]
              omega
          | false =>
            rw [hyw] at HIW
            go_wp2_with fail
            refine wp_region_noPanic ?_
            refine wp_region_held_drew (S := (fun u => u.cell? ⟨sb, so, none⟩ = some (.slice (some ⟨b, o, none⟩) src.length c) ∧ u.cell? ⟨sb, so + 1, none⟩ = some (.int .i64 (i : Int)) ∧ u.cell? ⟨b, o + i, none⟩ = some (.int .u8 (y.toNat : Int)))) (by kernel_rfl) ?_ (fun hHeld => ?_)
            · (try dsimp only)
              (exact ⟨d0, d1, hcy⟩)
            refine tk 0 hHeld ?_
            (try simp only [pA, pZ, pS])
            refine tk 1 hHeld ?_
            (try simp only [pA, pZ, pS])
            refine tk 2 hHeld ?_
            (try simp only [pA, pZ, pS])
            refine tk 3 hHeld ?_
            (try simp only [pA, pZ, pS])
            refine tk 4 hHeld ?_
            (try simp only [pA, pZ, pS])
            refine tk 5 hHeld ?_
            (try simp only [pA, pZ, pS])
            refine tk 6 hHeld ?_
            (try simp only [pA, pZ, pS])
            refine tk 7 hHeld ?_
            (try simp only [pA, pZ, pS])
            refine tk 8 hHeld ?_
            (try simp only [pA, pZ, pS])
            refine tk 9 hHeld ?_
            (try simp only [pA, pZ, pS])
            refine tk 10 hHeld ?_
            (try simp only [pA, pZ, pS])
            refine tk 11 hHeld ?_
            (try simp only [pA, pZ, pS])
            refine tk 12 hHeld ?_
            (try simp only [pA, pZ, pS])
            refine tk 13 hHeld ?_
            (try simp only [pA, pZ, pS])
            refine tk 14 hHeld ?_
            (try simp only [pA, pZ, pS])
            refine tk 15 hHeld ?_
            (try simp only [pA, pZ, pS])
            refine tk 16 hHeld ?_
            (try simp only [pA, pZ, pS])
            refine tk 17 hHeld ?_
            (try simp only [pA, pZ, pS])
            refine tk 18 hHeld ?_
            (try simp only [pA, pZ, pS])
            refine tk 19 hHeld ?_
            (try simp only [pA, pZ, pS])
            refine tk 20 hHeld ?_
            (try simp only [pA, pZ, pS])
            refine wpAnyH_ready (rs := [21]) (by kernel_rfl) (by simp) ?_
            refine AllReadyH.cons (o := ?o2) ?ho2 (fun K hK => ?step2) AllReadyH.nil
            case ho2 => (simp only [List.getElem?_toArray, List.getElem?_cons_succ, List.getElem?_cons_zero]; rfl)
            go_simp
            (go_at_call 160; refine (HIW.out _).mono ?_; rintro e w5 ⟨rfl, hw⟩; rw [hw]; clear hw w5)
            (try go_wp2_with fail)
            refine hK.out _ _ ?hS2 (fun hHeld' => ?rest2)
            case hS2 => ((try dsimp only); (exact ⟨d0, d1, hcy⟩))
            clear hK K
            (first | simp only [pA, pZ, pS] | simp only [pN] | skip)
            clear hHeld
            have hHeld := hHeld'
            clear hHeld'
            refine tk 22 hHeld ?_
            (try simp only [pA, pZ, pS])
            refine wpAnyH_done (by kernel_rfl) ?_ _
            refine NoPanic.normal ?_
            by_cases hij : i = j
            · subst hij
              obtain rfl : x = y := by rw [hx] at hy; injection hy
              have hne := wordB_not hyw hnb2 h40a h41a
              have HN : Hid (nextW l = .error (1, i)) := show nextW l = _ from by
                rw [HST.out, if_pos hne]
                rfl
              have e5 : ((i : Int) == (i : Int)) = true := by simp
              clear hne hHeld
              go_wp2_with fail
              refine ⟨rfl, MR.out.drew, ?_⟩
              rw [HN.out]
              rfl
            · have hstop : ∀ z, src[i]? = some z → wordB z = false := fun z hz => by
                rw [hy] at hz
                injection hz with hz
                rw [← hz]
                exact hyw
              have e5 : ((i : Int) == (j : Int)) = false := beqF (by omega)
              have hjlt : j < i := by omega
              clear hyw HIW hcy k0 k1 hy hHeld
              go_wp2_with fail
              have hTr := run_at (p := wordB) (s := src) (k := j) (j := i) hji hil (fun m z h1 h2 h3 => HALL.out m z h1 h2 h3) hstop
              have hjw : wordB x = true := HALL.out j x (Nat.le_refl _) (by omega) hx
              obtain ⟨T, hT⟩ : ∃ T, T = (src.drop j).take (i - j) := ⟨_, rfl⟩
              have hTl : T.length ≤ 20000 := by rw [hT, List.length_take, List.length_drop]; omega
              have HN0 : Hid (l = ⟨mkind T, j, T, mnum T⟩ :: wordsAt src i) := show l = _ from by
                rw [HST.out, if_neg (wordB_yes hjw), hTr.1, hTr.2, ← hT]
              have HBYr := hidX (HBY.out.keep hfar (HTR.out.below (Nat.le_refl sb)))
              have hsbr : sb < wr.heap.size := by omega
              have CS := hidX (fun u (hu : Below wr.heap.size wr u) => (show u.cell? ⟨sb, so, none⟩ = some (.slice (some ⟨b, o, none⟩) src.length c) ∧ u.cell? ⟨sb, so + 1, none⟩ = some (.int .i64 (i : Int)) ∧ (convert 22 9 (.slice (some ⟨b, o + j, none⟩) (i - j) (c - j))).run Tryz.prog u = .ok (.string (mkS T)) u from ⟨cell_below hu d0, cell_below hu d1, by rw [hT]; exact conv_word src u b o (c - j) j i (HBYr.out.below hu) hji hil⟩))
              have HWO := hidX (fun u (hu : Below wr.heap.size wr u) => (show Calls Tryz.prog 161 #[.string (mkS T)] u fun e w' => e = .returned (.agg (pwL (pkind T) 0 (ptext T) (mnum T)).toArray) ∧ Below u.heap.size u w' from wordOf_any T u hTl ((HE.out.keep (MR.out.bel hsb)).keep (hu.mono (by omega))).err ((HE.out.keep (MR.out.bel hsb)).keep (hu.mono (by omega))).tests))
              have BD := hidX ((Below.refl wr.heap.size wr).drew.drew : Below wr.heap.size wr wr.drew.drew)
              have s0 : (0 : Int) ≤ (j : Int) := by omega
              have s1 : (j : Int) ≤ (i : Int) := by omega
              have s2 : (i : Int) ≤ (c : Int) := by omega
              have s3 : ¬ c = j := by omega
              clear hTr hjw hT hstop d0 d1 z1
              refine wp_region_noPanic ?_
              refine wp_region_held_drew (S := (fun u => u.cell? ⟨sb, so, none⟩ = some (.slice (some ⟨b, o, none⟩) src.length c) ∧ u.cell? ⟨sb, so + 1, none⟩ = some (.int .i64 (i : Int)) ∧ (convert 22 9 (.slice (some ⟨b, o + j, none⟩) (i - j) (c - j))).run Tryz.prog u = .ok (.string (mkS T)) u)) (by kernel_rfl) ?_ (fun hHeld => ?_)
              · (try dsimp only)
                exact CS.out _ BD.out
              refine tk 0 hHeld ?_
              (try simp only [pA, pZ, pS])
              refine tk 1 hHeld ?_
              (try simp only [pA, pZ, pS])
              refine tk 2 hHeld ?_
              (try simp only [pA, pZ, pS])
              refine tk 3 hHeld ?_
              (try simp only [pA, pZ, pS])
              refine tk 4 hHeld ?_
              (try simp only [pA, pZ, pS])
              refine tk 5 hHeld ?_
              (try simp only [pA, pZ, pS])
              refine tk 6 hHeld ?_
              (try simp only [pA, pZ, pS])
              refine tk 7 hHeld ?_
              (try simp only [pA, pZ, pS])
              refine tk 8 hHeld ?_
              (try simp only [pA, pZ, pS])
              refine tk 9 hHeld ?_
              (try simp only [pA, pZ, pS])
              refine tk 10 hHeld ?_
              (try simp only [pA, pZ, pS])
              refine wpAnyH_ready (rs := [11, 12]) (by kernel_rfl) (by simp) ?_
              refine AllReadyH.cons (o := ?o3) ?ho3 (fun K hK => ?step3) (AllReadyH.cons (o := ?o4) ?ho4 (fun K hK => ?step4) AllReadyH.nil)
              case ho3 => (simp only [List.getElem?_toArray, List.getElem?_cons_succ, List.getElem?_cons_zero]; rfl)
              case ho4 => (simp only [List.getElem?_toArray, List.getElem?_cons_succ, List.getElem?_cons_zero]; rfl)
              case step3 =>
                go_simp
                (go_at_call 161; refine (HWO.out _ BD.out).mono ?_; rintro e w5 ⟨rfl, hb5⟩; have B5 := hidX (BD.out.trans (hb5.mono BD.out.size)))
                refine hK.out _ _ ?hS5 (fun hHeld' => ?rest5)
                case hS5 => ((try dsimp only); exact CS.out _ B5.out)
                clear hK K
                (try simp only [pA, pZ, pS])
                clear hHeld
                have hHeld := hHeld'
                clear hHeld'
                refine wpAnyH_ready (rs := [12]) (by kernel_rfl) (by simp) ?_
                refine AllReadyH.cons (o := ?o6) ?ho6 (fun K hK => ?step6) AllReadyH.nil
                case ho6 => (simp only [List.getElem?_toArray, List.getElem?_cons_succ, List.getElem?_cons_zero]; rfl)
                go_simp
                refine hK.out _ _ ?hS7 (fun hHeld' => ?rest7)
                case hS7 => ((try dsimp only); exact CS.out _ (B5.out.alloc B5.out.size _))
                clear hK K
                (try simp only [pA, pZ, pS])
                clear hHeld
                have hHeld := hHeld'
                clear hHeld'
                refine lift_alloc ?_
                intro w6 hW6 hq6
                have B6 := hidX (B5.out.trans (hW6.mono B5.out.size))
                refine wpAnyH_ready (rs := [13]) (by kernel_rfl) (by simp) ?_
                refine AllReadyH.cons (o := ?o8) ?ho8 (fun K hK => ?step8) AllReadyH.nil
                case ho8 => (simp only [List.getElem?_toArray, List.getElem?_cons_succ, List.getElem?_cons_zero]; rfl)
                (refine step_store_blk (by rfl) 131 (.tmp 5) (.tmp 95) (by rfl) w5.heap.size (pwL (pkind T) 0 (ptext T) (mnum T)) (by rfl) (by rfl) _ 131 hq6 (by rfl) infoPW (pwL_one _ _ _ _) ?_; intro w7 hb7 ht7; have B7 := hidX (B6.out.trans (ht7.out.below B5.out.size)))
                refine hK.out _ _ ?hS9 (fun hHeld' => ?rest9)
                case hS9 => ((try dsimp only); exact CS.out _ B7.out)
                clear hK K
                (try dsimp only)
                clear hHeld
                have hHeld := hHeld'
                clear hHeld'
                refine wpAnyH_done (by kernel_rfl) ?_ _
                refine NoPanic.normal ?_
                have hg5 : wr.heap.size ≤ w5.heap.size := B5.out.size
                have hb7' := hb7.out
                have hbB7 := B7.out
                clear hHeld s0 s1 s2 s3 CS HWO BD
                have y7 := (cells4X hb7').2.1
                have f7 : w7.frozen? ⟨w5.heap.size, 1, none⟩ = false := by simp [World.frozen?, hb7']
                go_upto_region 15 with fail
                refine lift_setW hb7' ?_
                intro w8 hb8 ht8
                replace hb8 : w8.heap[w5.heap.size]? = some (.cells (pwL (pkind T) (j : Int) (ptext T) (mnum T)).toArray 131 (0, 0)) := hb8
                have hB8 := hbB7.trans (ht8.below hg5)
                have M8 := hidX (MR.out.trans (MkO.of_below hB8))
                have HS8 := hidX ((hB8.block sb hsbr).trans HBR.out)
                have hq8 := (hB8.block w.heap.size (by omega)).trans hqr
                have k8 := (cells4X hb8).1
                have hg8 : w5.heap.size < w8.heap.size := lt_of_block' hb8
                clear y7 f7 hb7' hbB7 ht8 hB8 hb7 ht7 B7
                by_cases hpk : pkind T = -1
                · have HN : Hid (nextW l = .error (2, j)) := show nextW l = _ from by
                    rw [HN0.out]
                    have h8 := (pkind_bad T).1 hpk
                    unfold nextW badW
                    simp [h8]
                  have e6 : (pkind T == -1) = true := by simp [hpk]
                  clear hpk
                  go_wp2_with (first | (refine wpList_load_blk (by rfl) 131 (.tmp 5) (by rfl) w5.heap.size (pwL (pkind T) (j : Int) (ptext T) (mnum T)) (by rfl) 131 (0, 0) hb8 _ Tryz.underlying131 rfl infoPW ?_) | (go_at_call 93; refine (wfault_any (pkind T) (j : Int) (ptext T) (mnum T) 2 _).mono ?_; rintro e w9 ⟨rfl, hb9⟩) | fail)
                  refine ⟨rfl, M8.out.trans (MkO.of_below hb9), ?_⟩
                  rw [HN.out]
                  rfl
                · have h8 : mkind T ≠ 8 := fun h => hpk ((pkind_bad T).2 h)
                  obtain ⟨n0, n1, n2, n7⟩ := mkind_ne T
                  have HN : Hid (nextW l = .ok (⟨mkind T, j, T, mnum T⟩, wordsAt src i)) := show nextW l = _ from by
                    rw [HN0.out]
                    exact nextW_cons (by unfold badW; simp [h8, n7]) n0
                  have HV : Hid (Ending.returned (.agg (pwL (pkind T) (j : Int) (ptext T) (mnum T)).toArray) = .returned (pwV (pkW ⟨mkind T, j, T, mnum T⟩) (j : Int) (ptW ⟨mkind T, j, T, mnum T⟩) (mnum T))) := show _ = _ from by
                    have e1 : pkW ⟨mkind T, j, T, mnum T⟩ = pkind T := by unfold pkW; simp [n0, n1, n2]
                    have e2 : ptW ⟨mkind T, j, T, mnum T⟩ = ptext T := by unfold ptW; simp [n0, n1, n2]
                    rw [e1, e2]
                    rfl
                  have e6 : (pkind T == -1) = false := by simpa using hpk
                  clear hpk h8 n0 n1 n2 n7
                  go_wp2_with (first | (refine wpList_load_blk (by rfl) 131 (.tmp 5) (by rfl) w5.heap.size (pwL (pkind T) (j : Int) (ptext T) (mnum T)) (by rfl) 131 (0, 0) hb8 _ Tryz.underlying131 rfl infoPW ?_) | (refine wpList_store_blk (by rfl) 131 (.tmp 2) (.tmp 104) (by rfl) w.heap.size (pwL (pkind T) (j : Int) (ptext T) (mnum T)) (by rfl) (by rfl) _ 131 hq8 hZs infoPW (pwL_one _ _ _ _) ?_; intro w3 hb3 ht3) | fail)
                  have hld := run_loadVar_mid (P := Tryz.prog) w3 w.heap.size 0 131 (pwL (pkind T) (j : Int) (ptext T) (mnum T)) _ (range_blk hb3.out) Tryz.underlying131 rfl infoPW
                  have M3 := M8.out.turn ht3.out (Nat.le_refl _)
                  go_frame
                  refine bodyPost_ret (v := .agg (pwL (pkind T) (j : Int) (ptext T) (mnum T)).toArray) (by simp [results, Tryz.results132, asAddr, hld]) rfl ⟨M3, ?_⟩
                  rw [HN.out]
                  exact ⟨HV.out, i, HL.out.moved M3 ((ht3.out.block sb (by omega)).trans HS8.out) hil rfl⟩
              case step4 =>
                go_simp
                refine hK.out _ _ ?hS10 (fun hHeld' => ?rest10)
                case hS10 => ((try dsimp only); exact CS.out _ (BD.out.alloc BD.out.size _))
                clear hK K
                (try simp only [pA, pZ, pS])
                clear hHeld
                have hHeld := hHeld'
                clear hHeld'
                refine lift_allocD ?_
                intro w6 hW6 hq6
                have B6 := hidX hW6
                have hl6 : wr.heap.size < w6.heap.size := lt_of_block' hq6
                refine wpAnyH_ready (rs := [11]) (by kernel_rfl) (by simp) ?_
                refine AllReadyH.cons (o := ?o11) ?ho11 (fun K hK => ?step11) AllReadyH.nil
                case ho11 => (simp only [List.getElem?_toArray, List.getElem?_cons_succ, List.getElem?_cons_zero]; rfl)
                go_simp
                (go_at_call 161; refine (HWO.out _ B6.out).mono ?_; rintro e w5 ⟨rfl, hb5⟩; have B5 := hidX (B6.out.trans (hb5.mono B6.out.size)); have hq5 := (hb5.block wr.heap.size hl6).trans hq6)
                refine hK.out _ _ ?hS12 (fun hHeld' => ?rest12)
                case hS12 => ((try dsimp only); exact CS.out _ B5.out)
                clear hK K
                (try simp only [pA, pZ, pS])
                clear hHeld
                have hHeld := hHeld'
                clear hHeld'
                refine wpAnyH_ready (rs := [13]) (by kernel_rfl) (by simp) ?_
                refine AllReadyH.cons (o := ?o13) ?ho13 (fun K hK => ?step13) AllReadyH.nil
                case ho13 => (simp only [List.getElem?_toArray, List.getElem?_cons_succ, List.getElem?_cons_zero]; rfl)
                (refine step_store_blk (by rfl) 131 (.tmp 5) (.tmp 95) (by rfl) wr.heap.size (pwL (pkind T) 0 (ptext T) (mnum T)) (by rfl) (by rfl) _ 131 hq5 (by rfl) infoPW (pwL_one _ _ _ _) ?_; intro w7 hb7 ht7; have B7 := hidX (B5.out.trans (ht7.out.below (Nat.le_refl _))))
                refine hK.out _ _ ?hS14 (fun hHeld' => ?rest14)
                case hS14 => ((try dsimp only); exact CS.out _ B7.out)
                clear hK K
                (try dsimp only)
                clear hHeld
                have hHeld := hHeld'
                clear hHeld'
                refine wpAnyH_done (by kernel_rfl) ?_ _
                refine NoPanic.normal ?_
                have hg5 : wr.heap.size ≤ wr.heap.size := (Nat.le_refl wr.heap.size)
                have hb7' := hb7.out
                have hbB7 := B7.out
                clear hHeld s0 s1 s2 s3 CS HWO BD
                have y7 := (cells4X hb7').2.1
                have f7 : w7.frozen? ⟨wr.heap.size, 1, none⟩ = false := by simp [World.frozen?, hb7']
                go_upto_region 15 with fail
                refine lift_setW hb7' ?_
                intro w8 hb8 ht8
                replace hb8 : w8.heap[wr.heap.size]? = some (.cells (pwL (pkind T) (j : Int) (ptext T) (mnum T)).toArray 131 (0, 0)) := hb8
                have hB8 := hbB7.trans (ht8.below hg5)
                have M8 := hidX (MR.out.trans (MkO.of_below hB8))
                have HS8 := hidX ((hB8.block sb hsbr).trans HBR.out)
                have hq8 := (hB8.block w.heap.size (by omega)).trans hqr
                have k8 := (cells4X hb8).1
                have hg8 : wr.heap.size < w8.heap.size := lt_of_block' hb8
                clear y7 f7 hb7' hbB7 ht8 hB8 hb7 ht7 B7
                by_cases hpk : pkind T = -1
                · have HN : Hid (nextW l = .error (2, j)) := show nextW l = _ from by
                    rw [HN0.out]
                    have h8 := (pkind_bad T).1 hpk
                    unfold nextW badW
                    simp [h8]
                  have e6 : (pkind T == -1) = true := by simp [hpk]
                  clear hpk
                  go_wp2_with (first | (refine wpList_load_blk (by rfl) 131 (.tmp 5) (by rfl) wr.heap.size (pwL (pkind T) (j : Int) (ptext T) (mnum T)) (by rfl) 131 (0, 0) hb8 _ Tryz.underlying131 rfl infoPW ?_) | (go_at_call 93; refine (wfault_any (pkind T) (j : Int) (ptext T) (mnum T) 2 _).mono ?_; rintro e w9 ⟨rfl, hb9⟩) | fail)
                  refine ⟨rfl, M8.out.trans (MkO.of_below hb9), ?_⟩
                  rw [HN.out]
                  rfl
                · have h8 : mkind T ≠ 8 := fun h => hpk ((pkind_bad T).2 h)
                  obtain ⟨n0, n1, n2, n7⟩ := mkind_ne T
                  have HN : Hid (nextW l = .ok (⟨mkind T, j, T, mnum T⟩, wordsAt src i)) := show nextW l = _ from by
                    rw [HN0.out]
                    exact nextW_cons (by unfold badW; simp [h8, n7]) n0
                  have HV : Hid (Ending.returned (.agg (pwL (pkind T) (j : Int) (ptext T) (mnum T)).toArray) = .returned (pwV (pkW ⟨mkind T, j, T, mnum T⟩) (j : Int) (ptW ⟨mkind T, j, T, mnum T⟩) (mnum T))) := show _ = _ from by
                    have e1 : pkW ⟨mkind T, j, T, mnum T⟩ = pkind T := by unfold pkW; simp [n0, n1, n2]
                    have e2 : ptW ⟨mkind T, j, T, mnum T⟩ = ptext T := by unfold ptW; simp [n0, n1, n2]
                    rw [e1, e2]
                    rfl
                  have e6 : (pkind T == -1) = false := by simpa using hpk
                  clear hpk h8 n0 n1 n2 n7
                  go_wp2_with (first | (refine wpList_load_blk (by rfl) 131 (.tmp 5) (by rfl) wr.heap.size (pwL (pkind T) (j : Int) (ptext T) (mnum T)) (by rfl) 131 (0, 0) hb8 _ Tryz.underlying131 rfl infoPW ?_) | (refine wpList_store_blk (by rfl) 131 (.tmp 2) (.tmp 104) (by rfl) w.heap.size (pwL (pkind T) (j : Int) (ptext T) (mnum T)) (by rfl) (by rfl) _ 131 hq8 hZs infoPW (pwL_one _ _ _ _) ?_; intro w3 hb3 ht3) | fail)
                  have hld := run_loadVar_mid (P := Tryz.prog) w3 w.heap.size 0 131 (pwL (pkind T) (j : Int) (ptext T) (mnum T)) _ (range_blk hb3.out) Tryz.underlying131 rfl infoPW
                  have M3 := M8.out.turn ht3.out (Nat.le_refl _)
                  go_frame
                  refine bodyPost_ret (v := .agg (pwL (pkind T) (j : Int) (ptext T) (mnum T)).toArray) (by simp [results, Tryz.results132, asAddr, hld]) rfl ⟨M3, ?_⟩
                  rw [HN.out]
                  exact ⟨HV.out, i, HL.out.moved M3 ((ht3.out.block sb (by omega)).trans HS8.out) hil rfl⟩
        · have hstop : ∀ z, src[i]? = some z → wordB z = false := fun z hz => absurd (List.getElem?_eq_some_iff.1 hz).1 (by omega)
          have hz0 : decide ((i : Int) < (src.length : Int)) = false := by simp; omega
          have hz1 : decide (i < src.length) = false := by simp; omega
          have e5 : ((i : Int) == (j : Int)) = false := beqF (by omega)
          have hjlt : j < i := by omega
          clear hie
          go_wp2_with fail
          refine wp_region_noPanic ?_
          refine wp_region_held_drew (S := (fun u => u.cell? ⟨sb, so, none⟩ = some (.slice (some ⟨b, o, none⟩) src.length c) ∧ u.cell? ⟨sb, so + 1, none⟩ = some (.int .i64 (i : Int)))) (by kernel_rfl) ?_ (fun hHeld => ?_)
          · (try dsimp only)
            (exact ⟨d0, d1⟩)
          refine tk 0 hHeld ?_
          (try simp only [pA, pZ, pS])
          refine tk 1 hHeld ?_
          (try simp only [pA, pZ, pS])
          refine tk 2 hHeld ?_
          (try simp only [pA, pZ, pS])
          refine tk 3 hHeld ?_
          (try simp only [pA, pZ, pS])
          refine tk 4 hHeld ?_
          (try simp only [pA, pZ, pS])
          refine tk 5 hHeld ?_
          (try simp only [pA, pZ, pS])
          refine tk 6 hHeld ?_
          (try simp only [pA, pZ, pS])
          refine tk 7 hHeld ?_
          (try simp only [pA, pZ, pS])
          refine tk 8 hHeld ?_
          (try simp only [pA, pZ, pS])
          refine tk 9 hHeld ?_
          (try simp only [pA, pZ, pS])
          refine tk 10 hHeld ?_
          refine tn 11 hHeld ?_
          refine tn 12 hHeld ?_
          refine tn 13 hHeld ?_
          (try simp only [pA, pZ, pS])
          refine tn 14 hHeld ?_
          refine tn 15 hHeld ?_
          refine tn 16 hHeld ?_
          refine tn 17 hHeld ?_
          (try simp only [pA, pZ, pS])
          refine tn 18 hHeld ?_
          refine tn 19 hHeld ?_
          refine tn 20 hHeld ?_
          refine tn 21 hHeld ?_
          (try simp only [pA, pZ, pS])
          refine tk 22 hHeld ?_
          (try simp only [pA, pZ, pS])
          refine wpAnyH_done (by kernel_rfl) ?_ _
          refine NoPanic.normal ?_
          clear hHeld hz0 hz1
          go_wp2_with fail
          have hTr := run_at (p := wordB) (s := src) (k := j) (j := i) hji hil (fun m z h1 h2 h3 => HALL.out m z h1 h2 h3) hstop
          have hjw : wordB x = true := HALL.out j x (Nat.le_refl _) (by omega) hx
          obtain ⟨T, hT⟩ : ∃ T, T = (src.drop j).take (i - j) := ⟨_, rfl⟩
          have hTl : T.length ≤ 20000 := by rw [hT, List.length_take, List.length_drop]; omega
          have HN0 : Hid (l = ⟨mkind T, j, T, mnum T⟩ :: wordsAt src i) := show l = _ from by
            rw [HST.out, if_neg (wordB_yes hjw), hTr.1, hTr.2, ← hT]
          have HBYr := hidX (HBY.out.keep hfar (HTR.out.below (Nat.le_refl sb)))
          have hsbr : sb < wr.heap.size := by omega
          have CS := hidX (fun u (hu : Below wr.heap.size wr u) => (show u.cell? ⟨sb, so, none⟩ = some (.slice (some ⟨b, o, none⟩) src.length c) ∧ u.cell? ⟨sb, so + 1, none⟩ = some (.int .i64 (i : Int)) ∧ (convert 22 9 (.slice (some ⟨b, o + j, none⟩) (i - j) (c - j))).run Tryz.prog u = .ok (.string (mkS T)) u from ⟨cell_below hu d0, cell_below hu d1, by rw [hT]; exact conv_word src u b o (c - j) j i (HBYr.out.below hu) hji hil⟩))
          have HWO := hidX (fun u (hu : Below wr.heap.size wr u) => (show Calls Tryz.prog 161 #[.string (mkS T)] u fun e w' => e = .returned (.agg (pwL (pkind T) 0 (ptext T) (mnum T)).toArray) ∧ Below u.heap.size u w' from wordOf_any T u hTl ((HE.out.keep (MR.out.bel hsb)).keep (hu.mono (by omega))).err ((HE.out.keep (MR.out.bel hsb)).keep (hu.mono (by omega))).tests))
          have BD := hidX ((Below.refl wr.heap.size wr).drew.drew : Below wr.heap.size wr wr.drew.drew)
          have s0 : (0 : Int) ≤ (j : Int) := by omega
          have s1 : (j : Int) ≤ (i : Int) := by omega
          have s2 : (i : Int) ≤ (c : Int) := by omega
          have s3 : ¬ c = j := by omega
          clear hTr hjw hT hstop d0 d1 z1
          refine wp_region_noPanic ?_
          refine wp_region_held_drew (S := (fun u => u.cell? ⟨sb, so, none⟩ = some (.slice (some ⟨b, o, none⟩) src.length c) ∧ u.cell? ⟨sb, so + 1, none⟩ = some (.int .i64 (i : Int)) ∧ (convert 22 9 (.slice (some ⟨b, o + j, none⟩) (i - j) (c - j))).run Tryz.prog u = .ok (.string (mkS T)) u)) (by kernel_rfl) ?_ (fun hHeld => ?_)
          · (try dsimp only)
            exact CS.out _ BD.out
          refine tk 0 hHeld ?_
          (try simp only [pA, pZ, pS])
          refine tk 1 hHeld ?_
          (try simp only [pA, pZ, pS])
          refine tk 2 hHeld ?_
          (try simp only [pA, pZ, pS])
          refine tk 3 hHeld ?_
          (try simp only [pA, pZ, pS])
          refine tk 4 hHeld ?_
          (try simp only [pA, pZ, pS])
          refine tk 5 hHeld ?_
          (try simp only [pA, pZ, pS])
          refine tk 6 hHeld ?_
          (try simp only [pA, pZ, pS])
          refine tk 7 hHeld ?_
          (try simp only [pA, pZ, pS])
          refine tk 8 hHeld ?_
          (try simp only [pA, pZ, pS])
          refine tk 9 hHeld ?_
          (try simp only [pA, pZ, pS])
          refine tk 10 hHeld ?_
          (try simp only [pA, pZ, pS])
          refine wpAnyH_ready (rs := [11, 12]) (by kernel_rfl) (by simp) ?_
          refine AllReadyH.cons (o := ?o15) ?ho15 (fun K hK => ?step15) (AllReadyH.cons (o := ?o16) ?ho16 (fun K hK => ?step16) AllReadyH.nil)
          case ho15 => (simp only [List.getElem?_toArray, List.getElem?_cons_succ, List.getElem?_cons_zero]; rfl)
          case ho16 => (simp only [List.getElem?_toArray, List.getElem?_cons_succ, List.getElem?_cons_zero]; rfl)
          case step15 =>
            go_simp
            (go_at_call 161; refine (HWO.out _ BD.out).mono ?_; rintro e w5 ⟨rfl, hb5⟩; have B5 := hidX (BD.out.trans (hb5.mono BD.out.size)))
            refine hK.out _ _ ?hS17 (fun hHeld' => ?rest17)
            case hS17 => ((try dsimp only); exact CS.out _ B5.out)
            clear hK K
            (try simp only [pA, pZ, pS])
            clear hHeld
            have hHeld := hHeld'
            clear hHeld'
            refine wpAnyH_ready (rs := [12]) (by kernel_rfl) (by simp) ?_
            refine AllReadyH.cons (o := ?o18) ?ho18 (fun K hK => ?step18) AllReadyH.nil
            case ho18 => (simp only [List.getElem?_toArray, List.getElem?_cons_succ, List.getElem?_cons_zero]; rfl)
            go_simp
            refine hK.out _ _ ?hS19 (fun hHeld' => ?rest19)
            case hS19 => ((try dsimp only); exact CS.out _ (B5.out.alloc B5.out.size _))
            clear hK K
            (try simp only [pA, pZ, pS])
            clear hHeld
            have hHeld := hHeld'
            clear hHeld'
            refine lift_alloc ?_
            intro w6 hW6 hq6
            have B6 := hidX (B5.out.trans (hW6.mono B5.out.size))
            refine wpAnyH_ready (rs := [13]) (by kernel_rfl) (by simp) ?_
            refine AllReadyH.cons (o := ?o20) ?ho20 (fun K hK => ?step20) AllReadyH.nil
            case ho20 => (simp only [List.getElem?_toArray, List.getElem?_cons_succ, List.getElem?_cons_zero]; rfl)
            (refine step_store_blk (by rfl) 131 (.tmp 5) (.tmp 95) (by rfl) w5.heap.size (pwL (pkind T) 0 (ptext T) (mnum T)) (by rfl) (by rfl) _ 131 hq6 (by rfl) infoPW (pwL_one _ _ _ _) ?_; intro w7 hb7 ht7; have B7 := hidX (B6.out.trans (ht7.out.below B5.out.size)))
            refine hK.out _ _ ?hS21 (fun hHeld' => ?rest21)
            case hS21 => ((try dsimp only); exact CS.out _ B7.out)
            clear hK K
            (try dsimp only)
            clear hHeld
            have hHeld := hHeld'
            clear hHeld'
            refine wpAnyH_done (by kernel_rfl) ?_ _
            refine NoPanic.normal ?_
            have hg5 : wr.heap.size ≤ w5.heap.size := B5.out.size
            have hb7' := hb7.out
            have hbB7 := B7.out
            clear hHeld s0 s1 s2 s3 CS HWO BD
            have y7 := (cells4X hb7').2.1
            have f7 : w7.frozen? ⟨w5.heap.size, 1, none⟩ = false := by simp [World.frozen?, hb7']
            go_upto_region 15 with fail
            refine lift_setW hb7' ?_
            intro w8 hb8 ht8
            replace hb8 : w8.heap[w5.heap.size]? = some (.cells (pwL (pkind T) (j : Int) (ptext T) (mnum T)).toArray 131 (0, 0)) := hb8
            have hB8 := hbB7.trans (ht8.below hg5)
            have M8 := hidX (MR.out.trans (MkO.of_below hB8))
            have HS8 := hidX ((hB8.block sb hsbr).trans HBR.out)
            have hq8 := (hB8.block w.heap.size (by omega)).trans hqr
            have k8 := (cells4X hb8).1
            have hg8 : w5.heap.size < w8.heap.size := lt_of_block' hb8
            clear y7 f7 hb7' hbB7 ht8 hB8 hb7 ht7 B7
            by_cases hpk : pkind T = -1
            · have HN : Hid (nextW l = .error (2, j)) := show nextW l = _ from by
                rw [HN0.out]
                have h8 := (pkind_bad T).1 hpk
                unfold nextW badW
                simp [h8]
              have e6 : (pkind T == -1) = true := by simp [hpk]
              clear hpk
              go_wp2_with (first | (refine wpList_load_blk (by rfl) 131 (.tmp 5) (by rfl) w5.heap.size (pwL (pkind T) (j : Int) (ptext T) (mnum T)) (by rfl) 131 (0, 0) hb8 _ Tryz.underlying131 rfl infoPW ?_) | (go_at_call 93; refine (wfault_any (pkind T) (j : Int) (ptext T) (mnum T) 2 _).mono ?_; rintro e w9 ⟨rfl, hb9⟩) | fail)
              refine ⟨rfl, M8.out.trans (MkO.of_below hb9), ?_⟩
              rw [HN.out]
              rfl
            · have h8 : mkind T ≠ 8 := fun h => hpk ((pkind_bad T).2 h)
              obtain ⟨n0, n1, n2, n7⟩ := mkind_ne T
              have HN : Hid (nextW l = .ok (⟨mkind T, j, T, mnum T⟩, wordsAt src i)) := show nextW l = _ from by
                rw [HN0.out]
                exact nextW_cons (by unfold badW; simp [h8, n7]) n0
              have HV : Hid (Ending.returned (.agg (pwL (pkind T) (j : Int) (ptext T) (mnum T)).toArray) = .returned (pwV (pkW ⟨mkind T, j, T, mnum T⟩) (j : Int) (ptW ⟨mkind T, j, T, mnum T⟩) (mnum T))) := show _ = _ from by
                have e1 : pkW ⟨mkind T, j, T, mnum T⟩ = pkind T := by unfold pkW; simp [n0, n1, n2]
                have e2 : ptW ⟨mkind T, j, T, mnum T⟩ = ptext T := by unfold ptW; simp [n0, n1, n2]
                rw [e1, e2]
                rfl
              have e6 : (pkind T == -1) = false := by simpa using hpk
              clear hpk h8 n0 n1 n2 n7
              go_wp2_with (first | (refine wpList_load_blk (by rfl) 131 (.tmp 5) (by rfl) w5.heap.size (pwL (pkind T) (j : Int) (ptext T) (mnum T)) (by rfl) 131 (0, 0) hb8 _ Tryz.underlying131 rfl infoPW ?_) | (refine wpList_store_blk (by rfl) 131 (.tmp 2) (.tmp 104) (by rfl) w.heap.size (pwL (pkind T) (j : Int) (ptext T) (mnum T)) (by rfl) (by rfl) _ 131 hq8 hZs infoPW (pwL_one _ _ _ _) ?_; intro w3 hb3 ht3) | fail)
              have hld := run_loadVar_mid (P := Tryz.prog) w3 w.heap.size 0 131 (pwL (pkind T) (j : Int) (ptext T) (mnum T)) _ (range_blk hb3.out) Tryz.underlying131 rfl infoPW
              have M3 := M8.out.turn ht3.out (Nat.le_refl _)
              go_frame
              refine bodyPost_ret (v := .agg (pwL (pkind T) (j : Int) (ptext T) (mnum T)).toArray) (by simp [results, Tryz.results132, asAddr, hld]) rfl ⟨M3, ?_⟩
              rw [HN.out]
              exact ⟨HV.out, i, HL.out.moved M3 ((ht3.out.block sb (by omega)).trans HS8.out) hil rfl⟩
          case step16 =>
            go_simp
            refine hK.out _ _ ?hS22 (fun hHeld' => ?rest22)
            case hS22 => ((try dsimp only); exact CS.out _ (BD.out.alloc BD.out.size _))
            clear hK K
            (try simp only [pA, pZ, pS])
            clear hHeld
            have hHeld := hHeld'
            clear hHeld'
            refine lift_allocD ?_
            intro w6 hW6 hq6
            have B6 := hidX hW6
            have hl6 : wr.heap.size < w6.heap.size := lt_of_block' hq6
            refine wpAnyH_ready (rs := [11]) (by kernel_rfl) (by simp) ?_
            refine AllReadyH.cons (o := ?o23) ?ho23 (fun K hK => ?step23) AllReadyH.nil
            case ho23 => (simp only [List.getElem?_toArray, List.getElem?_cons_succ, List.getElem?_cons_zero]; rfl)
            go_simp
            (go_at_call 161; refine (HWO.out _ B6.out).mono ?_; rintro e w5 ⟨rfl, hb5⟩; have B5 := hidX (B6.out.trans (hb5.mono B6.out.size)); have hq5 := (hb5.block wr.heap.size hl6).trans hq6)
            refine hK.out _ _ ?hS24 (fun hHeld' => ?rest24)
            case hS24 => ((try dsimp only); exact CS.out _ B5.out)
            clear hK K
            (try simp only [pA, pZ, pS])
            clear hHeld
            have hHeld := hHeld'
            clear hHeld'
            refine wpAnyH_ready (rs := [13]) (by kernel_rfl) (by simp) ?_
            refine AllReadyH.cons (o := ?o25) ?ho25 (fun K hK => ?step25) AllReadyH.nil
            case ho25 => (simp only [List.getElem?_toArray, List.getElem?_cons_succ, List.getElem?_cons_zero]; rfl)
            (refine step_store_blk (by rfl) 131 (.tmp 5) (.tmp 95) (by rfl) wr.heap.size (pwL (pkind T) 0 (ptext T) (mnum T)) (by rfl) (by rfl) _ 131 hq5 (by rfl) infoPW (pwL_one _ _ _ _) ?_; intro w7 hb7 ht7; have B7 := hidX (B5.out.trans (ht7.out.below (Nat.le_refl _))))
            refine hK.out _ _ ?hS26 (fun hHeld' => ?rest26)
            case hS26 => ((try dsimp only); exact CS.out _ B7.out)
            clear hK K
            (try dsimp only)
            clear hHeld
            have hHeld := hHeld'
            clear hHeld'
            refine wpAnyH_done (by kernel_rfl) ?_ _
            refine NoPanic.normal ?_
            have hg5 : wr.heap.size ≤ wr.heap.size := (Nat.le_refl wr.heap.size)
            have hb7' := hb7.out
            have hbB7 := B7.out
            clear hHeld s0 s1 s2 s3 CS HWO BD
            have y7 := (cells4X hb7').2.1
            have f7 : w7.frozen? ⟨wr.heap.size, 1, none⟩ = false := by simp [World.frozen?, hb7']
            go_upto_region 15 with fail
            refine lift_setW hb7' ?_
            intro w8 hb8 ht8
            replace hb8 : w8.heap[wr.heap.size]? = some (.cells (pwL (pkind T) (j : Int) (ptext T) (mnum T)).toArray 131 (0, 0)) := hb8
            have hB8 := hbB7.trans (ht8.below hg5)
            have M8 := hidX (MR.out.trans (MkO.of_below hB8))
            have HS8 := hidX ((hB8.block sb hsbr).trans HBR.out)
            have hq8 := (hB8.block w.heap.size (by omega)).trans hqr
            have k8 := (cells4X hb8).1
            have hg8 : wr.heap.size < w8.heap.size := lt_of_block' hb8
            clear y7 f7 hb7' hbB7 ht8 hB8 hb7 ht7 B7
            by_cases hpk : pkind T = -1
            · have HN : Hid (nextW l = .error (2, j)) := show nextW l = _ from by
                rw [HN0.out]
                have h8 := (pkind_bad T).1 hpk
                unfold nextW badW
                simp [h8]
              have e6 : (pkind T == -1) = true := by simp [hpk]
              clear hpk
              go_wp2_with (first | (refine wpList_load_blk (by rfl) 131 (.tmp 5) (by rfl) wr.heap.size (pwL (pkind T) (j : Int) (ptext T) (mnum T)) (by rfl) 131 (0, 0) hb8 _ Tryz.underlying131 rfl infoPW ?_) | (go_at_call 93; refine (wfault_any (pkind T) (j : Int) (ptext T) (mnum T) 2 _).mono ?_; rintro e w9 ⟨rfl, hb9⟩) | fail)
              refine ⟨rfl, M8.out.trans (MkO.of_below hb9), ?_⟩
              rw [HN.out]
              rfl
            · have h8 : mkind T ≠ 8 := fun h => hpk ((pkind_bad T).2 h)
              obtain ⟨n0, n1, n2, n7⟩ := mkind_ne T
              have HN : Hid (nextW l = .ok (⟨mkind T, j, T, mnum T⟩, wordsAt src i)) := show nextW l = _ from by
                rw [HN0.out]
                exact nextW_cons (by unfold badW; simp [h8, n7]) n0
              have HV : Hid (Ending.returned (.agg (pwL (pkind T) (j : Int) (ptext T) (mnum T)).toArray) = .returned (pwV (pkW ⟨mkind T, j, T, mnum T⟩) (j : Int) (ptW ⟨mkind T, j, T, mnum T⟩) (mnum T))) := show _ = _ from by
                have e1 : pkW ⟨mkind T, j, T, mnum T⟩ = pkind T := by unfold pkW; simp [n0, n1, n2]
                have e2 : ptW ⟨mkind T, j, T, mnum T⟩ = ptext T := by unfold ptW; simp [n0, n1, n2]
                rw [e1, e2]
                rfl
              have e6 : (pkind T == -1) = false := by simpa using hpk
              clear hpk h8 n0 n1 n2 n7
              go_wp2_with (first | (refine wpList_load_blk (by rfl) 131 (.tmp 5) (by rfl) wr.heap.size (pwL (pkind T) (j : Int) (ptext T) (mnum T)) (by rfl) 131 (0, 0) hb8 _ Tryz.underlying131 rfl infoPW ?_) | (refine wpList_store_blk (by rfl) 131 (.tmp 2) (.tmp 104) (by rfl) w.heap.size (pwL (pkind T) (j : Int) (ptext T) (mnum T)) (by rfl) (by rfl) _ 131 hq8 hZs infoPW (pwL_one _ _ _ _) ?_; intro w3 hb3 ht3) | fail)
              have hld := run_loadVar_mid (P := Tryz.prog) w3 w.heap.size 0 131 (pwL (pkind T) (j : Int) (ptext T) (mnum T)) _ (range_blk hb3.out) Tryz.underlying131 rfl infoPW
              have M3 := M8.out.turn ht3.out (Nat.le_refl _)
              go_frame
              refine bodyPost_ret (v := .agg (pwL (pkind T) (j : Int) (ptext T) (mnum T)).toArray) (by simp [results, Tryz.results132, asAddr, hld]) rfl ⟨M3, ?_⟩
              rw [HN.out]
              exact ⟨HV.out, i, HL.out.moved M3 ((ht3.out.block sb (by omega)).trans HS8.out) hil rfl⟩
end Go.Proofs.YtjjjagepnnbebaaGreatDoor

namespace Go.Proofs.YtjjjagepnnbebaaGreatDoor
open Go.RowKit
attribute [local go_sem ↓] Go.wp_at_zero Go.wp_at_succ

/-- The parser in its box, ahead of the words l; R: its other cells. -/
structure PSt (w : World) (pb : Nat) (src : Bs) (a : Option Addr) (c : Nat) (l : List Wd) (R : List Value) : Prop where
  sc : ∃ k : Nat, ScAt w pb 0 56 (.slice a src.length c :: .int .i64 (k : Int) :: R).toArray src a c l
  env : EnvAt w pb
theorem ScAt.below {w w' : World} {sb so : Nat} {t : TypeId} {cs : Array Value} {src : Bs} {a : Option Addr} {c : Nat} {l : List Wd} (h : ScAt w sb so t cs src a c l) (hb : Below w.heap.size w w') : ScAt w' sb so t cs src a c l :=
  ⟨(hb.block sb (lt_of_block' h.blk)).trans h.blk, h.src0, h.cap, h.len, h.bys.below hb, h.far, h.pos⟩
theorem PSt.lt {w : World} {pb : Nat} {src : Bs} {a : Option Addr} {c : Nat} {l : List Wd} {R : List Value} (h : PSt w pb src a c l R) : pb < w.heap.size := by
  obtain ⟨k, hs⟩ := h.sc
  exact lt_of_block' hs.blk
theorem PSt.below {w w' : World} {pb : Nat} {src : Bs} {a : Option Addr} {c : Nat} {l : List Wd} {R : List Value} (h : PSt w pb src a c l R) (hb : Below w.heap.size w w') : PSt w' pb src a c l R := by
  obtain ⟨k, hs⟩ := h.sc
  exact ⟨⟨k, hs.below hb⟩, h.env.keep (hb.mono (Nat.le_of_lt h.lt))⟩
/-- What a look leaves. -/
def PkPost (w : World) (r : Px Wd) (e : Ending) (w' : World) : Prop := Below w.heap.size w w' ∧ match r with
  | .error f => e = fltE f
  | .ok (x, _) => e = .returned (pwV (pkW x) x.pos (ptW x) x.num)
/-- What reading leaves. -/
def PPost {α : Type} (w : World) (pb : Nat) (src : Bs) (a : Option Addr) (c : Nat) (R : List Value) (Q : α → Ending → World → Prop) (r : Px α) (e : Ending) (w' : World) : Prop := MkO (some pb) w w' ∧ match r with
  | .error f => e = fltE f
  | .ok (x, l) => Q x e w' ∧ PSt w' pb src a c l R
set_option maxHeartbeats 1600000 in
theorem peek_any (w : World) (pb k : Nat) (src : Bs) (a : Option Addr) (c : Nat) (l : List Wd) (R : List Value) (hs : ScAt w pb 0 56 (.slice a src.length c :: .int .i64 (k : Int) :: R).toArray src a c l) (hE : EnvAt w pb) : Calls Tryz.prog 92 #[.agg #[.slice a src.length c, .int .i64 (k : Int)]] w (PkPost w (nextW l)) := by
  have hpb : pb < w.heap.size := lt_of_block' hs.blk
  have HS := hidX hs
  have HE := hidX hE
  clear hs hE
  go_enter Tryz.func92, Tryz.ntmps92
  go_upto_region 1 with fail
  refine lift_alloc ?_
  intro w2 hW2 hq2
  have hB0 : Below w.heap.size w (w.alloc (.cells #[.slice a src.length c, .int .i64 (k : Int)] 51)) := (Below.refl _ _).alloc (Nat.le_refl _) _
  have hB2 : Below w.heap.size w w2 := hB0.trans (hW2.mono (by simp))
  have hsz : (w.alloc (.cells #[.slice a src.length c, .int .i64 (k : Int)] 51)).heap.size = w.heap.size + 1 := by simp
  have hbx : w2.heap[w.heap.size]? = some (.cells #[.slice a src.length c, .int .i64 (k : Int)] 51 (0, 0)) := (hW2.block w.heap.size (by rw [hsz]; omega)).trans (heap_alloc_new _ _)
  rw [hsz] at hq2
  obtain ⟨k', hk', e', hw'⟩ := HS.out.pos
  have hs2 : ScAt w2 w.heap.size 0 51 #[.slice a src.length c, .int .i64 (k : Int)] src a c l := by
    refine ⟨hbx, rfl, HS.out.cap, HS.out.len, HS.out.bys.below hB2, fun b o e => Nat.lt_trans (HS.out.far b o e) hpb, k, ?_, rfl, ?_⟩
    · simp at e'
      omega
    · simp at e'
      have : k' = k := by omega
      rw [← this]
      exact hw'
  have hE2 : EnvAt w2 w.heap.size := ⟨HE.out.err.keep HE.out.g2 (hB2.mono (Nat.le_of_lt hpb)), HE.out.tests.keep HE.out.g1 (hB2.mono (Nat.le_of_lt hpb)), Nat.lt_trans HE.out.g1 hpb, Nat.lt_trans HE.out.g2 hpb⟩
  have HNX := hidX (scNext_any w2 w.heap.size 0 51 #[.slice a src.length c, .int .i64 (k : Int)] src a c l hs2 hE2)
  have HB2 := hidX hB2
  have hl2 : w.heap.size + 1 < w2.heap.size := lt_of_block' hq2
  obtain ⟨Z, hZ⟩ : ∃ Z : Array Value, Z = #[.int .i32 0, .int .i64 0, .string ⟨#[]⟩, .int .i64 0] := ⟨_, rfl⟩
  rw [← hZ] at hq2
  have hZs : Z.size = 4 := by rw [hZ]; rfl
  clear hW2 hB0 hB2 hbx hs2 hE2 hsz e' hw' hZ hk'
  cases hr : nextW l with
  | error f =>
    rw [hr] at HNX
    go_wp2_with (first | (go_at_call 132; refine HNX.out.mono ?_; rintro e w3 ⟨hm3, rfl⟩; unfold fltE) | fail)
    exact ⟨rfl, HB2.out.trans (hm3.below (Nat.le_of_lt (by omega)) (fun g e => by cases e; exact Nat.le_refl _)), (by first | rfl | (rw [hr]; rfl))⟩
  | ok p =>
    obtain ⟨x, r⟩ := p
    rw [hr] at HNX
    go_wp2_with (first | (go_at_call 132; refine HNX.out.mono ?_; rintro e w3 ⟨hm3, rfl, _⟩; have hq3 := (hm3.block (w.heap.size + 1) hl2 (by simp)).trans hq2) | (refine wpList_store_blk (by rfl) 131 (.tmp 2) (.tmp 3) (by rfl) (w.heap.size + 1) (pwL (pkW x) x.pos (ptW x) x.num) (by rfl) (by rfl) _ 131 hq3 hZs infoPW (pwL_one _ _ _ _) ?_; intro w4 hb4 ht4) | fail)
    have hld := run_loadVar_mid (P := Tryz.prog) w4 (w.heap.size + 1) 0 131 (pwL (pkW x) x.pos (ptW x) x.num) _ (range_blk hb4.out) Tryz.underlying131 rfl infoPW
    have hB3 := HB2.out.trans (hm3.below (Nat.le_of_lt (by omega)) (fun g e => by cases e; exact Nat.le_refl _))
    go_frame
    exact bodyPost_ret (v := .agg (pwL (pkW x) x.pos (ptW x) x.num).toArray) (by simp [results, Tryz.results92, asAddr, hld]) rfl ⟨hB3.trans (ht4.out.below (by omega)), (by first | rfl | (rw [hr]; rfl))⟩
/-- The scanner's two cells, as one. -/
theorem ScAt.range {w : World} {pb k : Nat} {src : Bs} {a : Option Addr} {c : Nat} {l : List Wd} {R : List Value} (h : ScAt w pb 0 56 (.slice a src.length c :: .int .i64 (k : Int) :: R).toArray src a c l) : w.rangeAt pb 0 [.slice a src.length c, .int .i64 (k : Int)] := by
  intro j v hj
  rcases j with _ | _ | j
  · simp at hj
    subst hj
    simp [World.cell?, h.blk]
  · simp at hj
    subst hj
    simp [World.cell?, h.blk]
  · simp at hj
theorem wfield0 (x0 x1 x2 x3 : Value) (w : World) : (Instr.field 131 (.agg #[x0, x1, x2, x3]) 0).run Tryz.prog w = .ok x0 w := by kernel_rfl
theorem wfield2 (x0 x1 x2 x3 : Value) (w : World) : (Instr.field 131 (.agg #[x0, x1, x2, x3]) 2).run Tryz.prog w = .ok x2 w := by kernel_rfl
theorem wfield3 (x0 x1 x2 x3 : Value) (w : World) : (Instr.field 131 (.agg #[x0, x1, x2, x3]) 3).run Tryz.prog w = .ok x3 w := by kernel_rfl
theorem infoSc : (Tryz.prog.info? 51).map (·.size) = some 2 := by kernel_rfl
set_option maxRecDepth 100000 in
set_option maxHeartbeats 1600000 in
theorem ahead_any (w : World) (pb : Nat) (src : Bs) (a : Option Addr) (c : Nat) (l : List Wd) (R : List Value) (kd : Int) (h : PSt w pb src a c l R) : Calls Tryz.prog 46 #[.pointer (some ⟨pb, 0, none⟩), .int .i32 kd] w fun e w' => Below w.heap.size w w' ∧ match nextW l with
    | .error f => e = fltE f
    | .ok (x, _) => e = .returned (.bool (decide (pkW x = kd))) := by
  have HE := hidX h.env
  obtain ⟨k, hs⟩ := h.sc
  have HPK := hidX (peek_any w pb k src a c l R hs HE.out)
  have HRG := hidX hs.range
  clear h hs
  cases hr : nextW l with
  | error f =>
    rw [hr] at HPK
    go_enter Tryz.func46, Tryz.ntmps46
    go_wp2_with (first | (refine wpList_load_mid (by rfl) 51 (.tmp 7) (by rfl) pb 0 (by rfl) [.slice a src.length c, .int .i64 (k : Int)] _ HRG.out Tryz.underlying51 rfl infoSc ?_) | (go_at_call 92; refine HPK.out.mono ?_; rintro e w3 ⟨hb3, rfl⟩; unfold fltE) | fail)
    exact ⟨rfl, hb3, rfl⟩
  | ok p =>
    obtain ⟨x, r⟩ := p
    rw [hr] at HPK
    obtain ⟨X, hX⟩ : ∃ X, X = pkW x := ⟨_, rfl⟩
    show Calls Tryz.prog 46 #[.pointer (some ⟨pb, 0, none⟩), .int .i32 kd] w fun e w' => Below w.heap.size w w' ∧ e = .returned (.bool (decide (pkW x = kd)))
    rw [← hX]
    replace HPK : Hid (Calls Tryz.prog 92 #[.agg #[.slice a src.length c, .int .i64 (k : Int)]] w fun e w' => Below w.heap.size w w' ∧ e = .returned (.agg #[.int .i32 X, .int .i64 (x.pos : Int), .string (mkS (ptW x)), .int .i64 x.num])) := by
      rw [hX]
      exact HPK
    clear hX
    have hfd := wfield0
    go_enter Tryz.func46, Tryz.ntmps46
    go_wp2_with (first | (refine wpList_load_mid (by rfl) 51 (.tmp 7) (by rfl) pb 0 (by rfl) [.slice a src.length c, .int .i64 (k : Int)] _ HRG.out Tryz.underlying51 rfl infoSc ?_) | (go_at_call 92; refine HPK.out.mono ?_; rintro e w3 ⟨hb3, rfl⟩) | fail)
    go_ret
    exact ⟨hb3, ret_bool (by rw [Bool.eq_iff_iff, beq_iff_eq, decide_eq_true_iff])⟩
end Go.Proofs.YtjjjagepnnbebaaGreatDoor
