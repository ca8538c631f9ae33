/-
  OUR OWN TEXT. The model's draws: operations that suit rules (written by genrn11.py).
-/
import Derived.Test.YtgamdkokmkagaaaRn8m
import Derived.Test.YtgamdkokmkagaaaJg
namespace Go.Proofs.Ytgamdkokmkagaaa
open Go.RowKit
attribute [local go_sem ↓] Go.wp_at_zero Go.wp_at_succ

/-- An operation that was drawn: its cells, and its slots. -/
structure OpX where
  kind : Int
  tag : Int
  cls : ByteArray
  sv : Value
  vs : List V
def ocells (x : OpX) : List Value := [.int .i64 x.kind, .int .i64 x.tag, .string x.cls, x.sv]
def OpP (w : World) (base : Nat) (x : OpX) : Prop := (∃ sa sc, x.sv = .slice sa x.vs.length sc) ∧ w.ownsRow base 125 3 x.sv x.vs.length (x.vs.flatMap V.cells) ∧ x.vs.length ≤ 7 ∧ (∀ v ∈ x.vs, VSm v) ∧ x.cls.size ≤ 20 ∧ 0 ≤ x.tag ∧ x.tag ≤ 26
/-- Operations that were drawn: an owned row. -/
def OO (w : World) (base : Nat) (a : Option Addr) (c : Nat) (N : List OpX) : Prop := w.ownsRow base 31 4 (.slice a N.length c) N.length (N.flatMap ocells) ∧ ∀ x ∈ N, OpP w base x
theorem OO.nil (w : World) (base : Nat) : OO w base none 0 [] := ⟨World.ownsRow_nil _ _ _ _, fun x hx => by simp at hx⟩
theorem OO.rs {w w' : World} {base g : Nat} {a : Option Addr} {c : Nat} {N : List OpX} (h : OO w base a c N) (hr : Rs g w w') (hg : g < base) : OO w' base a c N := ⟨own_rs h.1 hr hg, fun x hx => ⟨(h.2 x hx).1, own_rs (h.2 x hx).2.1 hr hg, (h.2 x hx).2.2⟩⟩
theorem OO.bel {w w' : World} {base : Nat} {a : Option Addr} {c : Nat} {N : List OpX} (h : OO w base a c N) (hb : Below w.heap.size w w') : OO w' base a c N := ⟨own_bel h.1 hb, fun x hx => ⟨(h.2 x hx).1, own_bel (h.2 x hx).2.1 hb, (h.2 x hx).2.2⟩⟩
/-- An operation in its box. -/
def OB (w : World) (b : Nat) (x0 x1 x2 x3 : Value) : Prop := w.heap[b]? = some (.cells #[x0, x1, x2, x3] 31 (0, 0))
theorem OB.facts {w : World} {b : Nat} {x0 x1 x2 x3 : Value} (h : OB w b x0 x1 x2 x3) : (w.cell? ⟨b, 0, none⟩ = some x0 ∧ w.cell? ⟨b, 1, none⟩ = some x1 ∧ w.cell? ⟨b, 2, none⟩ = some x2 ∧ w.cell? ⟨b, 3, none⟩ = some x3) ∧ (∀ j, w.frozen? ⟨b, j, none⟩ = false) ∧ b < w.heap.size := by
  unfold OB at h
  refine ⟨⟨?_, ?_, ?_, ?_⟩, fun j => ?_, lt_of_block' h⟩ <;> simp [World.cell?, World.frozen?, h]
theorem infoOpS : (Try.prog.info? 31).map (·.size) = some 4 := by kernel_rfl
theorem infoOpF : (Try.prog.info? 31).map (fun i => (i.zero, i.size, i.bytes)) = some (some (.agg #[.int .i64 0, .int .i64 0, .string ⟨#[]⟩, .slice none 0 0]), 4, 56) := by kernel_rfl
theorem l3Fact_agg (g base : Nat) (x : PtV) (tag : Int) (w : World) (h : Rdr w g) (hx : PtX w base x) :
    Calls Try.prog 118 #[.pointer (some ⟨g, 0, none⟩), .agg #[.bool x.1.neg, .string x.1.cls, x.2], .int .i64 tag] w fun e w' => ∃ sa sc vs, e = .returned (.agg #[.int .i64 tag, .string x.1.cls, .slice sa (List.length vs) sc]) ∧ vs.length ≤ 3 ∧ w'.ownsRow w.heap.size 125 3 (.slice sa vs.length sc) vs.length (vs.flatMap V.cells) ∧ (∀ v ∈ vs, VSm v) ∧ Rs g w w' := l3Fact_any g base x tag w h hx
theorem cell_s3 {w : World} {b o d p0 p1 p2 : Nat} {v x0 x1 x2 : Value} (h : w.cell? ⟨b, o, none⟩ = some v) (hne : b ≠ d) : (((w.setCell ⟨d, p0, none⟩ x0).setCell ⟨d, p1, none⟩ x1).setCell ⟨d, p2, none⟩ x2).cell? ⟨b, o, none⟩ = some v := by
  have e1 : ∀ (u : World) (j : Nat) (x : Value), (u.setCell ⟨d, j, none⟩ x).cell? ⟨b, o, none⟩ = u.cell? ⟨b, o, none⟩ := fun u j x => World.cell?_of_block (w := u) (Below.heap_setCell u ⟨d, j, none⟩ x b hne)
  rw [e1, e1, e1]
  exact h
theorem cell_s4 {w : World} {b o d p0 p1 p2 p3 : Nat} {v x0 x1 x2 x3 : Value} (h : w.cell? ⟨b, o, none⟩ = some v) (hne : d ≠ b) : ((((w.setCell ⟨d, p0, none⟩ x0).setCell ⟨d, p1, none⟩ x1).setCell ⟨d, p2, none⟩ x2).setCell ⟨d, p3, none⟩ x3).cell? ⟨b, o, none⟩ = some v := by
  have e1 : ∀ (u : World) (j : Nat) (x : Value), (u.setCell ⟨d, j, none⟩ x).cell? ⟨b, o, none⟩ = u.cell? ⟨b, o, none⟩ := fun u j x => World.cell?_of_block (w := u) (Below.heap_setCell u ⟨d, j, none⟩ x b (Ne.symm hne))
  rw [e1, e1, e1, e1]
  exact h
theorem cells3 {w : World} {b : Nat} {ty : TypeId} {x0 x1 x2 : Value} (h : w.heap[b]? = some (.cells #[x0, x1, x2] ty (0, 0))) : w.cell? ⟨b, 0, none⟩ = some x0 ∧ w.cell? ⟨b, 1, none⟩ = some x1 ∧ w.cell? ⟨b, 2, none⟩ = some x2 := by
  refine ⟨?_, ?_, ?_⟩ <;> simp [World.cell?, h]
theorem FB_sets {w : World} {fb B : Nat} {x0 x1 x2 : Value} {tag : Int} {cls : ByteArray} {a : Option Addr} {c : Nat} {vs : List V} (h : w.heap[fb]? = some (.cells #[x0, x1, x2] 117 (0, 0))) (ho : w.ownsRow B 125 3 (.slice a vs.length c) vs.length (vs.flatMap V.cells)) (hv : ∀ v ∈ vs, VSm v) :
    FB (((w.setCell ⟨fb, 0, none⟩ (.int .i64 tag)).setCell ⟨fb, 1, none⟩ (.string cls)).setCell ⟨fb, 2, none⟩ (.slice a vs.length c)) fb B tag cls a c vs := by
  have h1 := heap_setCell_same (i := 0) h (.int .i64 tag)
  have h2 := heap_setCell_same (i := 1) h1 (.string cls)
  have h3 := heap_setCell_same (i := 2) h2 (.slice a vs.length c)
  exact ⟨by simpa using h3, own_set (own_set (own_set ho h (by decide)) h1 (by decide)) h2 (by decide), hv⟩
/-- Cells that region 7 reads. -/
abbrev PatS (w' : World) (qb pk n pc : Nat) (f : Nat → PtV) : Prop := w'.cell? ⟨qb, 2, none⟩ = some (.slice (some ⟨pk, 0, none⟩) n pc) ∧ (∀ j, j < n → w'.cell? ⟨pk, j * 3, none⟩ = some (.bool (f j).1.neg)) ∧ (∀ j, j < n → w'.cell? ⟨pk, j * 3 + 1, none⟩ = some (.string (f j).1.cls)) ∧ ∀ j, j < n → w'.cell? ⟨pk, j * 3 + 2, none⟩ = some (f j).2
theorem PatS.of {w : World} {base qb pk pc : Nat} {L : List PtV} {f : Nat → PtV} (hq : w.cell? ⟨qb, 2, none⟩ = some (.slice (some ⟨pk, 0, none⟩) L.length pc)) (h : PO w base (some ⟨pk, 0, none⟩) pc L) (hf : ∀ j, j < L.length → L[j]? = some (f j)) : PatS w qb pk L.length pc f := by
  have key : ∀ j, j < L.length → w.cell? ⟨pk, j * 3, none⟩ = some (.bool (f j).1.neg) ∧ w.cell? ⟨pk, j * 3 + 1, none⟩ = some (.string (f j).1.cls) ∧ w.cell? ⟨pk, j * 3 + 2, none⟩ = some (f j).2 := by
    intro j hj
    obtain ⟨k, e, _, h0, h1, h2⟩ := pat_at h (hf j hj)
    cases e
    exact ⟨h0, h1, h2⟩
  exact ⟨hq, fun j hj => (key j hj).1, fun j hj => (key j hj).2.1, fun j hj => (key j hj).2.2⟩
theorem PatS.bel {w w' : World} {qb pk n pc : Nat} {f : Nat → PtV} (h : PatS w qb pk n pc f) (hb : Below w.heap.size w w') : PatS w' qb pk n pc f := ⟨cell_below hb h.1, fun j hj => cell_below hb (h.2.1 j hj), fun j hj => cell_below hb (h.2.2.1 j hj), fun j hj => cell_below hb (h.2.2.2 j hj)⟩
theorem PatS.alloc {w : World} {qb pk n pc : Nat} {f : Nat → PtV} (h : PatS w qb pk n pc f) (o : Obj) : PatS (w.alloc o) qb pk n pc f := PatS.bel h ((Below.refl _ _).alloc (Nat.le_refl _) _)
theorem PatS.sets {w : World} {qb pk n pc d p0 p1 p2 : Nat} {x0 x1 x2 : Value} {f : Nat → PtV} (h : PatS w qb pk n pc f) (h1 : qb ≠ d) (h2 : pk ≠ d) : PatS (((w.setCell ⟨d, p0, none⟩ x0).setCell ⟨d, p1, none⟩ x1).setCell ⟨d, p2, none⟩ x2) qb pk n pc f := ⟨cell_s3 h.1 h1, fun j hj => cell_s3 (h.2.1 j hj) h2, fun j hj => cell_s3 (h.2.2.1 j hj) h2, fun j hj => cell_s3 (h.2.2.2 j hj) h2⟩
theorem Qs.toRs {g : Nat} {w w' : World} (h : Qs g g none w w') : Rs g w w' := ⟨⟨h.rest, fun k hk hne => h.block k hk (fun e => hne (by rw [e])) (fun e => hne (by rw [e])) (by simp)⟩, h.rdr⟩
theorem lift_ob4 {P : World → Prop} {w : World} {b : Nat} {x0 x1 x2 x3 y0 y1 y2 y3 : Value} (h0 : OB w b x0 x1 x2 x3) (h : ∀ wt, OB wt b y0 y1 y2 y3 → Turned w wt b → P wt) : P ((((w.setCell ⟨b, 0, none⟩ y0).setCell ⟨b, 1, none⟩ y1).setCell ⟨b, 2, none⟩ y2).setCell ⟨b, 3, none⟩ y3) := by
  have h1 := heap_setCell_same (i := 0) h0 y0
  have h2 := heap_setCell_same (i := 1) h1 y1
  have h3 := heap_setCell_same (i := 2) h2 y2
  have h4 := heap_setCell_same (i := 3) h3 y3
  exact h _ (by simpa [OB] using h4) (Turned.setCells [y0, y1, y2, y3] 0 w b)
theorem lift_ob0 {P : World → Prop} {w : World} {b : Nat} {x0 x1 x2 x3 y : Value} (h0 : OB w b x0 x1 x2 x3) (h : ∀ wt, OB wt b y x1 x2 x3 → Turned w wt b → P wt) : P (w.setCell ⟨b, 0, none⟩ y) :=
  h _ (by have := heap_setCell_same (i := 0) h0 y; simpa [OB] using this) (Turned.setCells [y] 0 w b)
theorem lift_ob3 {P : World → Prop} {w : World} {b : Nat} {x0 x1 x2 x3 y : Value} (h0 : OB w b x0 x1 x2 x3) (h : ∀ wt, OB wt b x0 x1 x2 y → Turned w wt b → P wt) : P (w.setCell ⟨b, 3, none⟩ y) :=
  h _ (by have := heap_setCell_same (i := 3) h0 y; simpa [OB] using this) (Turned.setCells [y] 3 w b)
theorem ocells_one (x : OpX) (h : ∃ sa n sc, x.sv = .slice sa n sc) : ∀ u ∈ ocells x, u.oneCell' = true := by
  intro u hu
  obtain ⟨sa, n, sc, h⟩ := h
  simp [ocells] at hu
  rcases hu with rfl | rfl | rfl | rfl
  · rfl
  · rfl
  · rfl
  · rw [h]; rfl

set_option maxRecDepth 100000 in
set_option maxHeartbeats 12800000 in
theorem l4Ops_any (g base : Nat) (a : Option Addr) (c : Nat) (M : List RuX) (w : World) (h : Rdr w g) (hRO : RO w base a c M) (hM1 : 1 ≤ M.length) (hM8 : M.length ≤ 8) :
    Calls Try.prog 63 #[.pointer (some ⟨g, 0, none⟩), .slice a M.length c, .int .i64 24] w fun e w' => ∃ oa oc N, e = .returned (.slice oa (List.length N) oc) ∧ N.length ≤ 24 ∧ OO w' w.heap.size oa oc N ∧ Rs g w w' := by
  have H := hidR h
  have MO := hidR hRO
  have hlt := h.lt
  clear h hRO
  go_enter Try.func63, Try.ntmps63
  go_wp2_with fail
  go_loopw [7, 8] (fun ov nv wr => ∃ (n : Nat) (oa : Option Addr) (oc : Nat) (N : List OpX), nv = .int .i64 (n : Int) ∧ ov = .slice oa N.length oc ∧ N.length = n ∧ n ≤ 24 ∧ OO wr w.heap.size oa oc N ∧ Rs g w wr) (fun _ nv _ => (24 - intOf nv).toNat)
  case atStart => exact ⟨0, none, 0, [], rfl, rfl, rfl, by omega, OO.nil _ _, Rs.refl H.out⟩
  case round =>
    obtain ⟨n, oa, oc, N, rfl, rfl, hNn, hn24, hOO, hR⟩ := hrel
    have HN := hidR hNn
    have hN24 : N.length ≤ 24 := by omega
    have NO := hidR hOO
    have R := hidR hR
    have hsr := hR.1.rest.size
    clear hNn hOO hR
    go_upto_region 3 with fail
    go_cut [23] (fun cv wx => ∃ t : Bool, cv = .bool t ∧ (t = true → n < 24) ∧ Rs g wr wx)
    case first =>
      by_cases hlt24 : n < 24
      · have h24 : (n : Int) < 24 := by omega
        cases hz : ((n : Int) == 0)
        · go_wp2_with fail
          refine (more_any g wr R.out.2).mono ?_
          rintro e w1 ⟨t, rfl, hr1⟩
          go_wp2_with fail
          go_meet
          exact ⟨t, rfl, fun _ => hlt24, hr1⟩
        · go_wp2_with fail
          go_meet
          exact ⟨true, rfl, fun _ => hlt24, Rs.refl R.out.2⟩
      · have h24 : ¬ (n : Int) < 24 := by omega
        go_wp2_with fail
        go_meet
        exact ⟨false, rfl, by simp, Rs.refl R.out.2⟩
    case rest =>
      obtain ⟨t, rfl, ht24, hRb⟩ := hcut
      obtain ⟨wb, rfl⟩ : ∃ v, v = wc := ⟨wc, rfl⟩
      have NOb := hidR (NO.out.rs hRb hlt)
      have Rb := hidR (R.out.trans hRb)
      have MOb := hidR (MO.out.rsT Rb.out H.out)
      have hsb := hRb.1.rest.size
      clear hRb NO R
      cases t with
      | false =>
        go_wp2_with fail
        go_ret
        exact ⟨oa, oc, N, rfl, hN24, NOb.out, Rb.out⟩
      | true =>
        have hn23 : n < 24 := ht24 rfl
        have hgb : g < wb.heap.size := by omega
        clear ht24
        go_wp2_with fail
        refine (next_any g wb Rb.out.2).mono ?_
        rintro e w1 ⟨n1, hn1, rfl, hr1⟩
        have R1 := hidR hr1
        have MO1 := hidR (MOb.out.rsT hr1 Rb.out.2)
        have hs1 := hr1.1.rest.size
        clear hr1 MOb
        go_wp2_with fail
        refine (next_any g w1 R1.out.2).mono ?_
        rintro e w2 ⟨n2, hn2, rfl, hr2⟩
        have R2 := hidR (R1.out.trans hr2)
        have MO2 := hidR (MO1.out.rsT hr2 R1.out.2)
        have hs2 := hr2.1.rest.size
        obtain ⟨i, hi⟩ : ∃ i, i = n2 % M.length := ⟨_, rfl⟩
        have hiM : i < M.length := by rw [hi]; exact Nat.mod_lt _ (by omega)
        have hie : (n2 : Int) % (M.length : Int) = (i : Int) := by rw [hi]; push_cast; rfl
        have hiI : (i : Int) < (M.length : Int) := by omega
        have hi0 : (0 : Int) ≤ (i : Int) := by omega
        have hMn : ¬ (M.length : Int) = 0 := by omega
        obtain ⟨x, hxi⟩ : ∃ x, M[i]? = some x := ⟨M[i], by simp [hiM]⟩
        obtain ⟨rk, rfl, hrk, c0, c1, c2, c3, c4⟩ := rule_at MO2.out hxi
        obtain ⟨⟨pa, pc, hpv, hPO⟩, hL1, hL6, ⟨ea, en, ec, hev⟩, ⟨aa, an, ac, hav⟩⟩ := MO2.out.2 x (List.mem_of_getElem? hxi)
        rw [hpv] at c2
        rw [hev] at c3
        rw [hav] at c4
        have PO2 := hidR hPO
        clear hr2 hi R1 MO1 hxi hPO
        go_upto_region 7 with fail
        refine lift_alloc ?_
        intro w3 hW3 hq3
        have Q3 := hidR (show w3.cell? ⟨w2.heap.size, 2, none⟩ = some (.slice pa x.pats.length pc) ∧ w2.heap.size < w3.heap.size from ⟨by simp [World.cell?, hq3], lt_of_block' hq3⟩)
        have R3 := hidR (R2.out.bel hW3)
        have PO3 := hidR (PO2.out.bel hW3)
        have hs3 := hW3.size
        clear hW3 hq3 c0 c1 c2 c3 c4 hie R2 PO2 MO2
        go_cut [11] (fun fv wx => ∃ (fb : Nat) (cls : ByteArray) (sa : Option Addr) (sc : Nat) (vs : List V), fv = .pointer (some ⟨fb, 0, none⟩) ∧ wb.heap.size ≤ fb ∧ FB wx fb wb.heap.size 1 cls sa sc vs ∧ vs.length ≤ 3 ∧ cls.size ≤ 20 ∧ Rs g wb wx)
        case first =>
          obtain ⟨L, hLL⟩ : ∃ L, L = x.pats := ⟨_, rfl⟩
          obtain ⟨q3, hq3l⟩ := Q3.out
          rw [← hLL] at q3 hL1 hL6 PO3
          clear hLL Q3
          have hLne : ¬ L = [] := fun e => by rw [e] at hL1; simp at hL1
          obtain ⟨f, hf⟩ : ∃ f : Nat → PtV, ∀ j, j < L.length → L[j]? = some (f j) := ⟨fun j => L[j]?.getD (L[0]'(by omega)), fun j hj => by simp [hj]⟩
          obtain ⟨pk, hpk, hpkl, _, _, _⟩ := pat_at PO3.out (hf 0 (by omega))
          subst hpk
          have HF := hidR hf
          clear hf
          have q3d : w3.drew.cell? ⟨w2.heap.size, 2, none⟩ = some (.slice (some ⟨pk, 0, none⟩) L.length pc) := q3
          have HRD := hidR (R3.out.2.bel (Below.refl _ _).drew)
          have POd := hidR (PO3.out.bel (Below.refl _ _).drew)
          have hLn : ¬ (L.length : Int) = 0 := by omega
          have HDA := hidR (fun o => ((Below.refl w3.heap.size w3).alloc (Nat.le_refl _) o).drew : ∀ o, Below w3.heap.size w3 (w3.alloc o).drew)
          have HRDa := hidR (fun o => R3.out.2.bel (HDA.out o))
          have POa := hidR (fun o => PO3.out.bel (HDA.out o))
          have q3a : ∀ o, (w3.alloc o).drew.cell? ⟨w2.heap.size, 2, none⟩ = some (.slice (some ⟨pk, 0, none⟩) L.length pc) := fun o => cell_below (HDA.out o) q3
          have PSd := hidR (PatS.of q3d POd.out HF.out)
          have PSa := hidR (fun o => PatS.of (q3a o) (POa.out o) HF.out)
          go_region_held3 (fun w' => w'.cell? ⟨w2.heap.size, 2, none⟩ = some (.slice (some ⟨pk, 0, none⟩) L.length pc) ∧ (∀ j, j < L.length → w'.cell? ⟨pk, j * 3, none⟩ = some (.bool (f j).1.neg)) ∧ (∀ j, j < L.length → w'.cell? ⟨pk, j * 3 + 1, none⟩ = some (.string (f j).1.cls)) ∧ ∀ j, j < L.length → w'.cell? ⟨pk, j * 3 + 2, none⟩ = some (f j).2) (first | with_reducible exact PS5.out | with_reducible exact PatS.alloc PS5.out _ | with_reducible exact PatS.sets PS5.out (by omega) (by omega) | with_reducible exact PS4.out | with_reducible exact PatS.alloc PS4.out _ | with_reducible exact PSd.out | with_reducible exact PSa.out _) (first | (go_at_call 117; refine (next_any g _ HRD.out).mono ?_; rintro e w4 ⟨n3, hn3, rfl, hr4⟩; have R4 := hidR ((R3.out.bel (Below.refl _ _).drew).trans hr4); have hs4 := hr4.1.rest.size; (try simp at hs4); have hq4l : w2.heap.size < w4.heap.size := (by omega); have q4 := cell_rs hr4 q3d (by omega); obtain ⟨ip, hip⟩ : ∃ ip, ip = n3 % L.length := ⟨_, rfl⟩; have hipL : ip < L.length := (by rw [hip]; exact Nat.mod_lt _ (by omega)); have hipe : (n3 : Int) % (L.length : Int) = (ip : Int) := (by rw [hip]; push_cast; rfl); have hipt : (n3 : Int).tmod (L.length : Int) = (ip : Int) := (by rw [hip]; first | exact (Int.ofNat_tmod _ _).symm | rfl); have hipI : (ip : Int) < (L.length : Int) := (by omega); have hip0 : (0 : Int) ≤ (ip : Int) := (by omega); have PO4 := hidR (POd.out.rsT hr4 HRD.out); have PS4 := hidR (PatS.of q4 PO4.out HF.out); have PY := hidR (PO4.out.2 (f ip) (List.mem_of_getElem? (HF.out ip hipL))); clear hr4 hip q4) | (go_at_call 117; refine (next_any g _ (HRDa.out _)).mono ?_; rintro e w4 ⟨n3, hn3, rfl, hr4⟩; have R4 := hidR ((R3.out.bel (HDA.out _)).trans hr4); have hs4 := hr4.1.rest.size; (try simp at hs4); have hq4l : w2.heap.size < w4.heap.size := (by omega); have q4 := cell_rs hr4 (q3a _) (by omega); have FX4 := hidR (show w4.heap[w3.heap.size]? = some (.cells #[.int .i64 0, .string ⟨#[]⟩, .slice none 0 0] 117 (0, 0)) from block_rs hr4 (heap_alloc_new _ _) (show w3.heap.size ≠ g by omega)); obtain ⟨ip, hip⟩ : ∃ ip, ip = n3 % L.length := ⟨_, rfl⟩; have hipL : ip < L.length := (by rw [hip]; exact Nat.mod_lt _ (by omega)); have hipe : (n3 : Int) % (L.length : Int) = (ip : Int) := (by rw [hip]; push_cast; rfl); have hipt : (n3 : Int).tmod (L.length : Int) = (ip : Int) := (by rw [hip]; first | exact (Int.ofNat_tmod _ _).symm | rfl); have hipI : (ip : Int) < (L.length : Int) := (by omega); have hip0 : (0 : Int) ≤ (ip : Int) := (by omega); have PO4 := hidR ((POa.out _).rsT hr4 (HRDa.out _)); have PS4 := hidR (PatS.of q4 PO4.out HF.out); have PY := hidR (PO4.out.2 (f ip) (List.mem_of_getElem? (HF.out ip hipL))); clear hr4 hip q4) | (go_at_call 118; have FX4' : Hid (w4.heap[w3.heap.size]? = some (.cells #[.int .i64 0, .string ⟨#[]⟩, .slice none 0 0] 117 (0, 0))) := (by assumption); refine (l3Fact_agg g base (f ip) 1 w4 R4.out.2 PY.out).mono ?_; rintro e w5 ⟨sa, sc, vs, rfl, hv3, hsown, hvs, hr5⟩; have S5 := hidR hsown; have V5 := hidR hvs; have R5 := hidR ((R4.out).trans hr5); have hs5 := hr5.1.rest.size; (try simp at hs5); have HCL := hidR PY.out.2.2.1; have PS5 := hidR (PatS.of (cell_rs hr5 PS4.out.1 (by omega)) (PO4.out.rsT hr5 R4.out.2) HF.out); have FX5 := hidR (show w5.heap[w3.heap.size]? = some (.cells #[.int .i64 0, .string ⟨#[]⟩, .slice none 0 0] 117 (0, 0)) from block_rs hr5 FX4'.out (show w3.heap.size ≠ g by omega)); have x0 : w5.cell? ⟨w3.heap.size, 0, none⟩ = some (.int .i64 0) := (cells3 FX5.out).1; have x1 : w5.cell? ⟨w3.heap.size, 1, none⟩ = some (.string ⟨#[]⟩) := (cells3 FX5.out).2.1; have x2 : w5.cell? ⟨w3.heap.size, 2, none⟩ = some (.slice none 0 0) := (cells3 FX5.out).2.2; have zz0 : w5.frozen? ⟨w3.heap.size, 0, none⟩ = false := frozen6 FX5.out 0; have zz1 : w5.frozen? ⟨w3.heap.size, 1, none⟩ = false := frozen6 FX5.out 1; have zz2 : w5.frozen? ⟨w3.heap.size, 2, none⟩ = false := frozen6 FX5.out 2; have hw35 : w3.heap.size < w5.heap.size := lt_of_block' FX5.out; have x0d : w5.cell? ⟨w3.drew.heap.size, 0, none⟩ = some (.int .i64 0) := x0; have x1d : w5.cell? ⟨w3.drew.heap.size, 1, none⟩ = some (.string ⟨#[]⟩) := x1; have x2d : w5.cell? ⟨w3.drew.heap.size, 2, none⟩ = some (.slice none 0 0) := x2; have zz0d : w5.frozen? ⟨w3.drew.heap.size, 0, none⟩ = false := zz0; have zz1d : w5.frozen? ⟨w3.drew.heap.size, 1, none⟩ = false := zz1; have zz2d : w5.frozen? ⟨w3.drew.heap.size, 2, none⟩ = false := zz2; clear hsown hvs hr5) | (go_at_call 118; have HA4 := hidR (fun o => (Below.refl _ _).alloc (Nat.le_refl _) o : ∀ o, Below w4.heap.size w4 (w4.alloc o)); refine (l3Fact_agg g base (f ip) 1 _ (R4.out.2.bel (HA4.out _)) (PY.out.bel (HA4.out _))).mono ?_; rintro e w5 ⟨sa, sc, vs, rfl, hv3, hsown, hvs, hr5⟩; have S5 := hidR hsown; have V5 := hidR hvs; have R5 := hidR ((R4.out.bel (HA4.out _)).trans hr5); have hs5 := hr5.1.rest.size; (try simp at hs5); have HCL := hidR PY.out.2.2.1; have PS5 := hidR (PatS.of (cell_rs hr5 (cell_below (HA4.out _) PS4.out.1) (by omega)) ((PO4.out.bel (HA4.out _)).rsT hr5 (R4.out.2.bel (HA4.out _))) HF.out); have FX5 := hidR (show w5.heap[w4.heap.size]? = some (.cells #[.int .i64 0, .string ⟨#[]⟩, .slice none 0 0] 117 (0, 0)) from block_rs hr5 (heap_alloc_new _ _) (show w4.heap.size ≠ g by omega)); obtain ⟨x0, x1, x2⟩ := cells3 FX5.out; have zz0 := frozen6 FX5.out 0; have zz1 := frozen6 FX5.out 1; have zz2 := frozen6 FX5.out 2; clear hsown hvs hr5) | (go_at_call 118; refine (l3Fact_agg g base (f ip) 1 w4 R4.out.2 PY.out).mono ?_; rintro e w5 ⟨sa, sc, vs, rfl, hv3, hsown, hvs, hr5⟩; have S5 := hidR hsown; have V5 := hidR hvs; have R5 := hidR ((R4.out).trans hr5); have hs5 := hr5.1.rest.size; (try simp at hs5); have HCL := hidR PY.out.2.2.1; have PS5 := hidR (PatS.of (cell_rs hr5 PS4.out.1 (by omega)) (PO4.out.rsT hr5 R4.out.2) HF.out); clear hsown hvs hr5))
          · go_wp2_with fail
            go_meet
            exact ⟨w5.heap.size, (f ip).1.cls, sa, sc, vs, rfl, by omega, ⟨heap_alloc_new _ _, own_bel (owns_base S5.out (by omega)) ((Below.refl _ _).alloc (Nat.le_refl _) _), V5.out⟩, hv3, HCL.out, R5.out.bel ((Below.refl _ _).alloc (Nat.le_refl _) _)⟩
          · go_wp2_with fail
            go_meet
            exact ⟨w4.heap.size, (f ip).1.cls, sa, sc, vs, rfl, by omega, FB_sets FX5.out (owns_base S5.out (by simp; omega)) V5.out, hv3, HCL.out, ((R5.out.setOwn (by omega) (by omega)).setOwn (by omega) (by omega)).setOwn (by omega) (by omega)⟩
          · go_wp2_with fail
            go_meet
            exact ⟨w3.heap.size, (f ip).1.cls, sa, sc, vs, rfl, by omega, FB_sets FX5.out (owns_base S5.out (by omega)) V5.out, hv3, HCL.out, ((R5.out.setOwn (by omega) (by omega)).setOwn (by omega) (by omega)).setOwn (by omega) (by omega)⟩
        case rest =>
          obtain ⟨fb, cls, sa, sc, vs, rfl, hfb, hFB, hv3, hcl, hRf⟩ := hcut
          obtain ⟨w5, rfl⟩ : ∃ v, v = wc := ⟨wc, rfl⟩
          have F5 := hidR hFB
          have R5 := hidR hRf
          have hs5 := hRf.1.rest.size
          obtain ⟨d0, d1, d2⟩ := hFB.cells
          have hfb5 : fb < w5.heap.size := lt_of_block' hFB.1
          clear hFB hRf R3 PO3 Q3
          go_upto_region 9 with fail
          refine lift_alloc ?_
          intro w6 hW6 hob6
          obtain ⟨ob, hob⟩ : ∃ ob, ob = w5.heap.size := ⟨_, rfl⟩
          rw [← hob] at hob6 ⊢
          have O6 := hidR (show OB w6 ob (.int .i64 1) (.int .i64 0) (.string cls) (.slice sa vs.length sc) from hob6)
          have F6 := hidR (F5.out.bel hW6)
          have R6 := hidR (R5.out.bel hW6)
          have hobw : wb.heap.size ≤ ob := by omega
          have hobf : ob ≠ fb := by omega
          have hs6 := hW6.size
          have FN := hidR (fun k (hk : (Value.slice sa vs.length sc).ownBlock = some k) => (show k ≠ ob by have := (F5.out.2.1.lt k hk).2; omega))
          clear hW6 hob6 d0 d1 d2 hob F5 R5
          have hn2I : ¬ ((n : Int) + 2) = 0 := by omega
          by_cases hc0 : n1 = 253
          · have b5 : (((n1 : Int) % 8 == 5) : Bool) = true := by simp; omega
            have b253 : (((n1 : Int) == 253) : Bool) = true := by simp; omega
            have b254 : (((n1 : Int) == 254) : Bool) = false := by simp; omega
            obtain ⟨⟨f0, f1, f2, f3⟩, z, hbo⟩ := O6.out.facts
            have z0 := z 0
            have z1 := z 1
            have z2 := z 2
            have z3 := z 3
            clear z
            go_wp2_with fail
            refine (next_any g w6 R6.out.2).mono ?_
            rintro e w7 ⟨n7, hn7, rfl, hr7⟩
            have O7 := hidR (show OB w7 ob _ _ _ _ from block_rs hr7 O6.out (by omega))
            have R7 := hidR (R6.out.trans hr7)
            clear f0 f1 f2 f3 z0 z1 z2 z3 hbo hr7
            obtain ⟨⟨f0, f1, f2, f3⟩, z, hbo⟩ := O7.out.facts
            have z0 := z 0
            have z1 := z 1
            have z2 := z 2
            have z3 := z 3
            clear z
            obtain ⟨tg, htg0⟩ : ∃ tg, tg = 1 + n7 % (n + 2) := ⟨_, rfl⟩
            have html := Nat.mod_lt n7 (show 0 < n + 2 by omega)
            have htg : 1 + (n7 : Int) % ((n : Int) + 2) = (tg : Int) := (by rw [htg0]; push_cast; rfl)
            have htgt : 1 + (n7 : Int).tmod ((n : Int) + 2) = (tg : Int) := (by rw [Int.tmod_eq_emod_of_nonneg (by omega)]; exact htg)
            have htgb : 1 ≤ tg ∧ tg ≤ 26 := (by omega)
            clear htg0 html
            go_upto_region 15 with fail
            refine lift_ob4 O7.out ?_
            intro w8 hO8 hT8
            have R8 := hidR (R7.out.turned hT8 hobw hgb)
            have O8 := hidR (show OB w8 ob (.int .i64 2) (.int .i64 (tg : Int)) (.string ⟨#[]⟩) (.slice none 0 0) from hO8)
            clear f0 f1 f2 f3 z0 z1 z2 z3 hbo hO8 hT8 O7 R7 O6 R6 htg htgt
            obtain ⟨⟨f0, f1, f2, f3⟩, z, hbo⟩ := O8.out.facts
            have z0 := z 0
            have z1 := z 1
            have z2 := z 2
            have z3 := z 3
            clear z
            have hs8 := R8.out.1.rest.size
            go_wp2_with fail
            refine (l1Wrong_any g wb.heap.size none 0 [] w8 R8.out.2 hgb hs8 (by simp) (by simp) (World.ownsRow_nil _ _ _ _)).mono ?_
            rintro e w9 ⟨sa', sc', vs', rfl, hv7, hvs', hso, hq⟩
            have hr9 := Qs.toRs (show Qs g g none w8 w9 from hq)
            have O9 := hidR (show OB w9 ob _ _ _ _ from block_rs hr9 O8.out (by omega))
            have R9 := hidR (R8.out.trans hr9)
            have SO9 := hidR hso
            have SV9 := hidR hvs'
            clear f0 f1 f2 f3 z0 z1 z2 z3 hbo hr9 hq hso hvs'
            obtain ⟨⟨f0, f1, f2, f3⟩, z, hbo⟩ := O9.out.facts
            have z0 := z 0
            have z1 := z 1
            have z2 := z 2
            have z3 := z 3
            clear z
            go_upto_region 17 with fail
            refine lift_ob3 O9.out ?_
            intro wt hOt hTt
            have Rt := hidR (R9.out.turned hTt hobw hgb)
            have Ot := hidR hOt
            have SOt := hidR (owns_base (owns_of_block SO9.out (fun k hk => hTt.block k (fun e => by obtain ⟨cc, hcc⟩ := own_type SO9.out hk; subst e; exact own_far O9.out hcc (by decide)))) (show w.heap.size ≤ wb.heap.size by omega))
            clear f0 f1 f2 f3 z0 z1 z2 z3 hbo hOt hTt O9 R9 SO9 O8 R8
            go_upto_region 19 with fail
            obtain ⟨⟨f0, f1, f2, f3⟩, _, hbo⟩ := Ot.out.facts
            have hst := Rt.out.1.rest.size
            have NOt := hidR (NOb.out.rs Rt.out hlt)
            have HW := hidR (fun o => (Below.refl _ _).alloc (Nat.le_refl _) o : ∀ o, Below wt.heap.size wt (wt.alloc o))
            have TY := hidR (fun o k hk => own_type (own_bel NOt.out.1 (HW.out o)) (k := k) hk)
            go_wp2_with (first | (at_builtin; refine wpList_append_any (by rfl) (.tmp 89) (.tmp 91) 27 (by rfl) w.heap.size 31 _ 4 56 Try.underlying27 infoOpF (by rfl) (by omega) _ N.length _ (by rfl) (own_bel NOt.out.1 (HW.out _)) (some ⟨_, 0, none⟩) 1 1 (by rfl) (ocells ⟨2, (tg : Int), ⟨#[]⟩, .slice sa' vs'.length sc', vs'⟩) (by rfl) (fun e => by cases e) (news_new _ _ _ _ (by simp)) (ocells_one _ ⟨_, _, _, rfl⟩) (by unfold maxLen; omega) (by omega) (by simp; omega) ?_; intro a9 c9 w9 ho9 hg9 hl9) | fail)
            go_roundw
            case rel =>
              refine ⟨n + 1, a9, c9, N ++ [⟨2, (tg : Int), ⟨#[]⟩, .slice sa' vs'.length sc', vs'⟩], by go_num, by simp, by simp; exact HN.out, by omega, ⟨by simpa using ho9.out, fun y hy => ?_⟩, ((Rb.out.trans Rt.out).bel (HW.out _)).grown hg9.out (fun k hk => (NOt.out.1.lt k hk).1) hlt⟩
              have hy' : OpP wt w.heap.size y := by
                rcases List.mem_append.1 hy with hy | hy
                · exact NOt.out.2 y hy
                · simp at hy
                  subst hy
                  exact ⟨⟨sa', sc', rfl⟩, SOt.out, hv7, SV9.out, show (0 : Nat) ≤ 20 by decide, show (0 : Int) ≤ (tg : Int) ∧ (tg : Int) ≤ 26 by omega⟩
              exact ⟨hy'.1, own_grown (own_bel hy'.2.1 (HW.out _)) hg9.out (TY.out _) (by decide), hy'.2.2⟩
            case measure => (simp [intOf]; omega)
          by_cases hc81 : n1 = 254
          · have b5 : (((n1 : Int) % 8 == 5) : Bool) = false := by simp; omega
            have b6 : (((n1 : Int) % 8 == 6) : Bool) = true := by simp; omega
            have b253 : (((n1 : Int) == 253) : Bool) = false := by simp; omega
            have b254 : (((n1 : Int) == 254) : Bool) = true := by simp; omega
            obtain ⟨⟨f0, f1, f2, f3⟩, z, hbo⟩ := O6.out.facts
            have z0 := z 0
            have z1 := z 1
            have z2 := z 2
            have z3 := z 3
            clear z
            go_wp2_with fail
            refine (next_any g w6 R6.out.2).mono ?_
            rintro e w7 ⟨n7, hn7, rfl, hr7⟩
            have O7 := hidR (show OB w7 ob _ _ _ _ from block_rs hr7 O6.out (by omega))
            have R7 := hidR (R6.out.trans hr7)
            clear f0 f1 f2 f3 z0 z1 z2 z3 hbo hr7
            obtain ⟨⟨f0, f1, f2, f3⟩, z, hbo⟩ := O7.out.facts
            have z0 := z 0
            have z1 := z 1
            have z2 := z 2
            have z3 := z 3
            clear z
            obtain ⟨tg, htg0⟩ : ∃ tg, tg = 1 + n7 % (n + 2) := ⟨_, rfl⟩
            have html := Nat.mod_lt n7 (show 0 < n + 2 by omega)
            have htg : 1 + (n7 : Int) % ((n : Int) + 2) = (tg : Int) := (by rw [htg0]; push_cast; rfl)
            have htgt : 1 + (n7 : Int).tmod ((n : Int) + 2) = (tg : Int) := (by rw [Int.tmod_eq_emod_of_nonneg (by omega)]; exact htg)
            have htgb : 1 ≤ tg ∧ tg ≤ 26 := (by omega)
            clear htg0 html
            go_upto_region 15 with fail
            refine lift_ob4 O7.out ?_
            intro w8 hO8 hT8
            have R8 := hidR (R7.out.turned hT8 hobw hgb)
            have O8 := hidR (show OB w8 ob (.int .i64 2) (.int .i64 (tg : Int)) (.string ⟨#[]⟩) (.slice none 0 0) from hO8)
            clear f0 f1 f2 f3 z0 z1 z2 z3 hbo hO8 hT8 O7 R7 O6 R6 htg htgt
            obtain ⟨⟨f0, f1, f2, f3⟩, z, hbo⟩ := O8.out.facts
            have z0 := z 0
            have z1 := z 1
            have z2 := z 2
            have z3 := z 3
            clear z
            go_wp2_with fail
            refine (next_any g w8 R8.out.2).mono ?_
            rintro e w9 ⟨n9, hn9, rfl, hr9⟩
            have O9 := hidR (show OB w9 ob _ _ _ _ from block_rs hr9 O8.out (by omega))
            have R9 := hidR (R8.out.trans hr9)
            clear f0 f1 f2 f3 z0 z1 z2 z3 hbo hr9
            obtain ⟨⟨f0, f1, f2, f3⟩, z, hbo⟩ := O9.out.facts
            have z0 := z 0
            have z1 := z 1
            have z2 := z 2
            have z3 := z 3
            clear z
            go_upto_region 19 with fail
            refine lift_ob0 O9.out ?_
            intro wt hOt hTt
            have Rt := hidR (R9.out.turned hTt hobw hgb)
            have Ot := hidR (show OB wt ob (.int .i64 ((n9 : Int) % 6)) _ _ _ from hOt)
            clear f0 f1 f2 f3 z0 z1 z2 z3 hbo hOt hTt O9 R9 O8 R8
            obtain ⟨⟨f0, f1, f2, f3⟩, _, hbo⟩ := Ot.out.facts
            have hst := Rt.out.1.rest.size
            have NOt := hidR (NOb.out.rs Rt.out hlt)
            have HW := hidR (fun o => (Below.refl _ _).alloc (Nat.le_refl _) o : ∀ o, Below wt.heap.size wt (wt.alloc o))
            have TY := hidR (fun o k hk => own_type (own_bel NOt.out.1 (HW.out o)) (k := k) hk)
            go_wp2_with (first | (at_builtin; refine wpList_append_any (by rfl) (.tmp 89) (.tmp 91) 27 (by rfl) w.heap.size 31 _ 4 56 Try.underlying27 infoOpF (by rfl) (by omega) _ N.length _ (by rfl) (own_bel NOt.out.1 (HW.out _)) (some ⟨_, 0, none⟩) 1 1 (by rfl) (ocells ⟨(n9 : Int) % 6, (tg : Int), ⟨#[]⟩, .slice none 0 0, []⟩) (by rfl) (fun e => by cases e) (news_new _ _ _ _ (by simp)) (ocells_one _ ⟨_, _, _, rfl⟩) (by unfold maxLen; omega) (by omega) (by simp; omega) ?_; intro a9 c9 w9 ho9 hg9 hl9) | fail)
            go_roundw
            case rel =>
              refine ⟨n + 1, a9, c9, N ++ [⟨(n9 : Int) % 6, (tg : Int), ⟨#[]⟩, .slice none 0 0, []⟩], by go_num, by simp, by simp; exact HN.out, by omega, ⟨by simpa using ho9.out, fun y hy => ?_⟩, ((Rb.out.trans Rt.out).bel (HW.out _)).grown hg9.out (fun k hk => (NOt.out.1.lt k hk).1) hlt⟩
              have hy' : OpP wt w.heap.size y := by
                rcases List.mem_append.1 hy with hy | hy
                · exact NOt.out.2 y hy
                · simp at hy
                  subst hy
                  exact ⟨⟨none, 0, rfl⟩, World.ownsRow_nil _ _ _ _, by simp, by simp, show (0 : Nat) ≤ 20 by decide, show (0 : Int) ≤ (tg : Int) ∧ (tg : Int) ≤ 26 by omega⟩
              exact ⟨hy'.1, own_grown (own_bel hy'.2.1 (HW.out _)) hg9.out (TY.out _) (by decide), hy'.2.2⟩
            case measure => (simp [intOf]; omega)
          by_cases hc157 : n1 % 8 = 5
          · have b5 : (((n1 : Int) % 8 == 5) : Bool) = true := by simp; omega
            have b253 : (((n1 : Int) == 253) : Bool) = false := by simp; omega
            have b254 : (((n1 : Int) == 254) : Bool) = false := by simp; omega
            obtain ⟨⟨f0, f1, f2, f3⟩, z, hbo⟩ := O6.out.facts
            have z0 := z 0
            have z1 := z 1
            have z2 := z 2
            have z3 := z 3
            clear z
            go_wp2_with fail
            refine (next_any g w6 R6.out.2).mono ?_
            rintro e w7 ⟨n7, hn7, rfl, hr7⟩
            have O7 := hidR (show OB w7 ob _ _ _ _ from block_rs hr7 O6.out (by omega))
            have R7 := hidR (R6.out.trans hr7)
            clear f0 f1 f2 f3 z0 z1 z2 z3 hbo hr7
            obtain ⟨⟨f0, f1, f2, f3⟩, z, hbo⟩ := O7.out.facts
            have z0 := z 0
            have z1 := z 1
            have z2 := z 2
            have z3 := z 3
            clear z
            obtain ⟨tg, htg0⟩ : ∃ tg, tg = 1 + n7 % (n + 2) := ⟨_, rfl⟩
            have html := Nat.mod_lt n7 (show 0 < n + 2 by omega)
            have htg : 1 + (n7 : Int) % ((n : Int) + 2) = (tg : Int) := (by rw [htg0]; push_cast; rfl)
            have htgt : 1 + (n7 : Int).tmod ((n : Int) + 2) = (tg : Int) := (by rw [Int.tmod_eq_emod_of_nonneg (by omega)]; exact htg)
            have htgb : 1 ≤ tg ∧ tg ≤ 26 := (by omega)
            clear htg0 html
            go_upto_region 15 with fail
            refine lift_ob4 O7.out ?_
            intro w8 hO8 hT8
            have R8 := hidR (R7.out.turned hT8 hobw hgb)
            have O8 := hidR (show OB w8 ob (.int .i64 2) (.int .i64 (tg : Int)) (.string ⟨#[]⟩) (.slice none 0 0) from hO8)
            clear f0 f1 f2 f3 z0 z1 z2 z3 hbo hO8 hT8 O7 R7 O6 R6 htg htgt
            go_upto_region 19 with fail
            obtain ⟨wt, rfl⟩ : ∃ v, v = w8 := ⟨w8, rfl⟩
            have Ot := O8
            have Rt := R8
            obtain ⟨⟨f0, f1, f2, f3⟩, _, hbo⟩ := Ot.out.facts
            have hst := Rt.out.1.rest.size
            have NOt := hidR (NOb.out.rs Rt.out hlt)
            have HW := hidR (fun o => (Below.refl _ _).alloc (Nat.le_refl _) o : ∀ o, Below wt.heap.size wt (wt.alloc o))
            have TY := hidR (fun o k hk => own_type (own_bel NOt.out.1 (HW.out o)) (k := k) hk)
            go_wp2_with (first | (at_builtin; refine wpList_append_any (by rfl) (.tmp 89) (.tmp 91) 27 (by rfl) w.heap.size 31 _ 4 56 Try.underlying27 infoOpF (by rfl) (by omega) _ N.length _ (by rfl) (own_bel NOt.out.1 (HW.out _)) (some ⟨_, 0, none⟩) 1 1 (by rfl) (ocells ⟨2, (tg : Int), ⟨#[]⟩, .slice none 0 0, []⟩) (by rfl) (fun e => by cases e) (news_new _ _ _ _ (by simp)) (ocells_one _ ⟨_, _, _, rfl⟩) (by unfold maxLen; omega) (by omega) (by simp; omega) ?_; intro a9 c9 w9 ho9 hg9 hl9) | fail)
            go_roundw
            case rel =>
              refine ⟨n + 1, a9, c9, N ++ [⟨2, (tg : Int), ⟨#[]⟩, .slice none 0 0, []⟩], by go_num, by simp, by simp; exact HN.out, by omega, ⟨by simpa using ho9.out, fun y hy => ?_⟩, ((Rb.out.trans Rt.out).bel (HW.out _)).grown hg9.out (fun k hk => (NOt.out.1.lt k hk).1) hlt⟩
              have hy' : OpP wt w.heap.size y := by
                rcases List.mem_append.1 hy with hy | hy
                · exact NOt.out.2 y hy
                · simp at hy
                  subst hy
                  exact ⟨⟨none, 0, rfl⟩, World.ownsRow_nil _ _ _ _, by simp, by simp, show (0 : Nat) ≤ 20 by decide, show (0 : Int) ≤ (tg : Int) ∧ (tg : Int) ≤ 26 by omega⟩
              exact ⟨hy'.1, own_grown (own_bel hy'.2.1 (HW.out _)) hg9.out (TY.out _) (by decide), hy'.2.2⟩
            case measure => (simp [intOf]; omega)
          by_cases hc212 : n1 % 8 = 6
          · have b5 : (((n1 : Int) % 8 == 5) : Bool) = false := by simp; omega
            have b6 : (((n1 : Int) % 8 == 6) : Bool) = true := by simp; omega
            have b253 : (((n1 : Int) == 253) : Bool) = false := by simp; omega
            have b254 : (((n1 : Int) == 254) : Bool) = false := by simp; omega
            obtain ⟨⟨f0, f1, f2, f3⟩, z, hbo⟩ := O6.out.facts
            have z0 := z 0
            have z1 := z 1
            have z2 := z 2
            have z3 := z 3
            clear z
            go_wp2_with fail
            refine (next_any g w6 R6.out.2).mono ?_
            rintro e w7 ⟨n7, hn7, rfl, hr7⟩
            have O7 := hidR (show OB w7 ob _ _ _ _ from block_rs hr7 O6.out (by omega))
            have R7 := hidR (R6.out.trans hr7)
            clear f0 f1 f2 f3 z0 z1 z2 z3 hbo hr7
            obtain ⟨⟨f0, f1, f2, f3⟩, z, hbo⟩ := O7.out.facts
            have z0 := z 0
            have z1 := z 1
            have z2 := z 2
            have z3 := z 3
            clear z
            obtain ⟨tg, htg0⟩ : ∃ tg, tg = 1 + n7 % (n + 2) := ⟨_, rfl⟩
            have html := Nat.mod_lt n7 (show 0 < n + 2 by omega)
            have htg : 1 + (n7 : Int) % ((n : Int) + 2) = (tg : Int) := (by rw [htg0]; push_cast; rfl)
            have htgt : 1 + (n7 : Int).tmod ((n : Int) + 2) = (tg : Int) := (by rw [Int.tmod_eq_emod_of_nonneg (by omega)]; exact htg)
            have htgb : 1 ≤ tg ∧ tg ≤ 26 := (by omega)
            clear htg0 html
            go_upto_region 15 with fail
            refine lift_ob4 O7.out ?_
            intro w8 hO8 hT8
            have R8 := hidR (R7.out.turned hT8 hobw hgb)
            have O8 := hidR (show OB w8 ob (.int .i64 2) (.int .i64 (tg : Int)) (.string ⟨#[]⟩) (.slice none 0 0) from hO8)
            clear f0 f1 f2 f3 z0 z1 z2 z3 hbo hO8 hT8 O7 R7 O6 R6 htg htgt
            go_upto_region 19 with fail
            obtain ⟨wt, rfl⟩ : ∃ v, v = w8 := ⟨w8, rfl⟩
            have Ot := O8
            have Rt := R8
            obtain ⟨⟨f0, f1, f2, f3⟩, _, hbo⟩ := Ot.out.facts
            have hst := Rt.out.1.rest.size
            have NOt := hidR (NOb.out.rs Rt.out hlt)
            have HW := hidR (fun o => (Below.refl _ _).alloc (Nat.le_refl _) o : ∀ o, Below wt.heap.size wt (wt.alloc o))
            have TY := hidR (fun o k hk => own_type (own_bel NOt.out.1 (HW.out o)) (k := k) hk)
            go_wp2_with (first | (at_builtin; refine wpList_append_any (by rfl) (.tmp 89) (.tmp 91) 27 (by rfl) w.heap.size 31 _ 4 56 Try.underlying27 infoOpF (by rfl) (by omega) _ N.length _ (by rfl) (own_bel NOt.out.1 (HW.out _)) (some ⟨_, 0, none⟩) 1 1 (by rfl) (ocells ⟨2, (tg : Int), ⟨#[]⟩, .slice none 0 0, []⟩) (by rfl) (fun e => by cases e) (news_new _ _ _ _ (by simp)) (ocells_one _ ⟨_, _, _, rfl⟩) (by unfold maxLen; omega) (by omega) (by simp; omega) ?_; intro a9 c9 w9 ho9 hg9 hl9) | fail)
            go_roundw
            case rel =>
              refine ⟨n + 1, a9, c9, N ++ [⟨2, (tg : Int), ⟨#[]⟩, .slice none 0 0, []⟩], by go_num, by simp, by simp; exact HN.out, by omega, ⟨by simpa using ho9.out, fun y hy => ?_⟩, ((Rb.out.trans Rt.out).bel (HW.out _)).grown hg9.out (fun k hk => (NOt.out.1.lt k hk).1) hlt⟩
              have hy' : OpP wt w.heap.size y := by
                rcases List.mem_append.1 hy with hy | hy
                · exact NOt.out.2 y hy
                · simp at hy
                  subst hy
                  exact ⟨⟨none, 0, rfl⟩, World.ownsRow_nil _ _ _ _, by simp, by simp, show (0 : Nat) ≤ 20 by decide, show (0 : Int) ≤ (tg : Int) ∧ (tg : Int) ≤ 26 by omega⟩
              exact ⟨hy'.1, own_grown (own_bel hy'.2.1 (HW.out _)) hg9.out (TY.out _) (by decide), hy'.2.2⟩
            case measure => (simp [intOf]; omega)
          by_cases hc268 : n1 % 8 = 7
          · have b5 : (((n1 : Int) % 8 == 5) : Bool) = false := by simp; omega
            have b6 : (((n1 : Int) % 8 == 6) : Bool) = false := by simp; omega
            have b7 : (((n1 : Int) % 8 == 7) : Bool) = true := by simp; omega
            have b253 : (((n1 : Int) == 253) : Bool) = false := by simp; omega
            have b254 : (((n1 : Int) == 254) : Bool) = false := by simp; omega
            have f6 := F6.out.cells.2.2
            have f6d : w6.drew.cell? ⟨fb, 2, none⟩ = some (.slice sa vs.length sc) := f6
            have RDd := hidR (R6.out.2.bel (Below.refl _ _).drew)
            have Od := hidR (show OB w6.drew ob _ _ _ _ from O6.out)
            have hfbg : fb ≠ g := by omega
            go_upto_region 14 with fail
            obtain ⟨m2, hm2⟩ : ∃ m2 : Nat, m2 = n + 2 := ⟨_, rfl⟩
            have hm2e : (n : Int) + 2 = (m2 : Int) := by omega
            have hm2n : ¬ (m2 : Int) = 0 := by omega
            have hm2b : 0 < m2 ∧ m2 ≤ 26 := by omega
            have hm2w : IntKind.i64.wrap ((n : Int) + 2) = (m2 : Int) := by rw [IntKind.wrap_i64] <;> omega
            have hm2v : IntKind.i64.wrap (m2 : Int) = (m2 : Int) := by rw [IntKind.wrap_i64]; omega
            have hm2z : ((m2 : Int) == 0) = false := by simp; omega
            have hm2m : ¬ (m2 : Int) = -1 := by omega
            have hm2k : ¬ m2 = 0 := by omega
            clear hm2 hn2I
            go_region_held3 (fun w' => w'.cell? ⟨fb, 2, none⟩ = some (.slice sa vs.length sc)) (first | with_reducible exact f6d | with_reducible exact f7 | with_reducible exact cell_s4 f7 hobf) ((go_at_call 117; refine (next_any g _ RDd.out).mono ?_; rintro e w7 ⟨n7, hn7, rfl, hr7⟩; have f7 := cell_rs hr7 f6d hfbg; have O7 := hidR (show OB w7 ob _ _ _ _ from block_rs hr7 Od.out (by omega)); have R7 := hidR ((R6.out.bel (Below.refl _ _).drew).trans hr7); have S7 := hidR (own_rs (own_bel F6.out.2.1 (Below.refl _ _).drew) hr7 hgb); obtain ⟨⟨f0, f1, f2, f3⟩, z, hbo⟩ := O7.out.facts; have z0 := z 0; have z1 := z 1; have z2 := z 2; have z3 := z 3; clear z; obtain ⟨r7, hr70⟩ : ∃ r7, r7 = n7 % m2 := ⟨_, rfl⟩; have html := Nat.mod_lt n7 hm2b.1; have hrm : (n7 : Int) % (m2 : Int) = (r7 : Int) := (by rw [hr70]; push_cast; rfl); have hrt : (n7 : Int).tmod (m2 : Int) = (r7 : Int) := (by rw [Int.tmod_eq_emod_of_nonneg (by omega)]; exact hrm); obtain ⟨tg, htg0⟩ : ∃ tg, tg = 1 + r7 := ⟨_, rfl⟩; have htg : 1 + (r7 : Int) = (tg : Int) := (by omega); have htgt : IntKind.i64.wrap (tg : Int) = (tg : Int) := (by rw [IntKind.wrap_i64]; omega); have hr7w : IntKind.i64.wrap (r7 : Int) = (r7 : Int) := (by rw [IntKind.wrap_i64]; omega); have hr7b : r7 < 26 := (by omega); have htgb : 1 ≤ tg ∧ tg ≤ 26 := (by omega); clear htg0 html hr70; clear hr7))
            go_upto_region 15 with fail
            refine lift_ob4 O7.out ?_
            intro wt hOt hTt
            have Rt := hidR (R7.out.turned hTt hobw hgb)
            have Ot := hidR (show OB wt ob (.int .i64 3) (.int .i64 (tg : Int)) (.string ⟨#[]⟩) (.slice sa vs.length sc) from hOt)
            have SOt := hidR (owns_base (owns_of_block S7.out (fun k hk => hTt.block k (fun e => by obtain ⟨cc, hcc⟩ := own_type S7.out hk; subst e; exact own_far O7.out hcc (by decide)))) (show w.heap.size ≤ wb.heap.size by omega))
            have HV := hidR F6.out.2.2
            clear f0 f1 f2 f3 z0 z1 z2 z3 hbo hOt hTt O7 R7 S7 O6 R6 Od RDd f7 f6 f6d htg htgt hrm hrt hr7w hr7b F6
            go_upto_region 19 with fail
            obtain ⟨⟨f0, f1, f2, f3⟩, _, hbo⟩ := Ot.out.facts
            have hst := Rt.out.1.rest.size
            have NOt := hidR (NOb.out.rs Rt.out hlt)
            have HW := hidR (fun o => (Below.refl _ _).alloc (Nat.le_refl _) o : ∀ o, Below wt.heap.size wt (wt.alloc o))
            have TY := hidR (fun o k hk => own_type (own_bel NOt.out.1 (HW.out o)) (k := k) hk)
            go_wp2_with (first | (at_builtin; refine wpList_append_any (by rfl) (.tmp 89) (.tmp 91) 27 (by rfl) w.heap.size 31 _ 4 56 Try.underlying27 infoOpF (by rfl) (by omega) _ N.length _ (by rfl) (own_bel NOt.out.1 (HW.out _)) (some ⟨_, 0, none⟩) 1 1 (by rfl) (ocells ⟨3, (tg : Int), ⟨#[]⟩, .slice sa vs.length sc, vs⟩) (by rfl) (fun e => by cases e) (news_new _ _ _ _ (by simp)) (ocells_one _ ⟨_, _, _, rfl⟩) (by unfold maxLen; omega) (by omega) (by simp; omega) ?_; intro a9 c9 w9 ho9 hg9 hl9) | fail)
            go_roundw
            case rel =>
              refine ⟨n + 1, a9, c9, N ++ [⟨3, (tg : Int), ⟨#[]⟩, .slice sa vs.length sc, vs⟩], by go_num, by simp, by simp; exact HN.out, by omega, ⟨by simpa using ho9.out, fun y hy => ?_⟩, ((Rb.out.trans Rt.out).bel (HW.out _)).grown hg9.out (fun k hk => (NOt.out.1.lt k hk).1) hlt⟩
              have hy' : OpP wt w.heap.size y := by
                rcases List.mem_append.1 hy with hy | hy
                · exact NOt.out.2 y hy
                · simp at hy
                  subst hy
                  exact ⟨⟨sa, sc, rfl⟩, SOt.out, Nat.le_trans hv3 (by decide), HV.out, show (0 : Nat) ≤ 20 by decide, show (0 : Int) ≤ (tg : Int) ∧ (tg : Int) ≤ 26 by omega⟩
              exact ⟨hy'.1, own_grown (own_bel hy'.2.1 (HW.out _)) hg9.out (TY.out _) (by decide), hy'.2.2⟩
            case measure => (simp [intOf]; omega)
          have b5 : (((n1 : Int) % 8 == 5) : Bool) = false := by simp; omega
          have b6 : (((n1 : Int) % 8 == 6) : Bool) = false := by simp; omega
          have b7 : (((n1 : Int) % 8 == 7) : Bool) = false := by simp; omega
          have b253 : (((n1 : Int) == 253) : Bool) = false := by simp; omega
          have b254 : (((n1 : Int) == 254) : Bool) = false := by simp; omega
          obtain ⟨⟨f0, f1, f2, f3⟩, z, hbo⟩ := O6.out.facts
          have z0 := z 0
          have z1 := z 1
          have z2 := z 2
          have z3 := z 3
          clear z
          go_upto_region 19 with fail
          clear f0 f1 f2 f3 z0 z1 z2 z3 hbo
          obtain ⟨wt, rfl⟩ : ∃ v, v = w6 := ⟨w6, rfl⟩
          have Ot := O6
          have Rt := R6
          have SOt := hidR (owns_base F6.out.2.1 (show w.heap.size ≤ wb.heap.size by omega))
          have HV := hidR F6.out.2.2
          clear F6
          obtain ⟨⟨f0, f1, f2, f3⟩, _, hbo⟩ := Ot.out.facts
          have hst := Rt.out.1.rest.size
          have NOt := hidR (NOb.out.rs Rt.out hlt)
          have HW := hidR (fun o => (Below.refl _ _).alloc (Nat.le_refl _) o : ∀ o, Below wt.heap.size wt (wt.alloc o))
          have TY := hidR (fun o k hk => own_type (own_bel NOt.out.1 (HW.out o)) (k := k) hk)
          go_wp2_with (first | (at_builtin; refine wpList_append_any (by rfl) (.tmp 89) (.tmp 91) 27 (by rfl) w.heap.size 31 _ 4 56 Try.underlying27 infoOpF (by rfl) (by omega) _ N.length _ (by rfl) (own_bel NOt.out.1 (HW.out _)) (some ⟨_, 0, none⟩) 1 1 (by rfl) (ocells ⟨1, 0, cls, .slice sa vs.length sc, vs⟩) (by rfl) (fun e => by cases e) (news_new _ _ _ _ (by simp)) (ocells_one _ ⟨_, _, _, rfl⟩) (by unfold maxLen; omega) (by omega) (by simp; omega) ?_; intro a9 c9 w9 ho9 hg9 hl9) | fail)
          go_roundw
          case rel =>
            refine ⟨n + 1, a9, c9, N ++ [⟨1, 0, cls, .slice sa vs.length sc, vs⟩], by go_num, by simp, by simp; exact HN.out, by omega, ⟨by simpa using ho9.out, fun y hy => ?_⟩, ((Rb.out.trans Rt.out).bel (HW.out _)).grown hg9.out (fun k hk => (NOt.out.1.lt k hk).1) hlt⟩
            have hy' : OpP wt w.heap.size y := by
              rcases List.mem_append.1 hy with hy | hy
              · exact NOt.out.2 y hy
              · simp at hy
                subst hy
                exact ⟨⟨sa, sc, rfl⟩, SOt.out, Nat.le_trans hv3 (by decide), HV.out, hcl, show (0 : Int) ≤ 0 ∧ (0 : Int) ≤ 26 by decide⟩
            exact ⟨hy'.1, own_grown (own_bel hy'.2.1 (HW.out _)) hg9.out (TY.out _) (by decide), hy'.2.2⟩
          case measure => (simp [intOf]; omega)
end Go.Proofs.Ytgamdkokmkagaaa
