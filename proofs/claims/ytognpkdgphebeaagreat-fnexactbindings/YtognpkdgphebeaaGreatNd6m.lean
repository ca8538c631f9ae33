/-
  OUR OWN TEXT. The program: plans in a row; what they are once the facts have come into the nodes.
-/
import Derived.Test.YtognpkdgphebeaaGreatNd3m
import Derived.Test.YtognpkdgphebeaaGreatUn
import Derived.Test.YtognpkdgphebeaaGreatUh
namespace Go.Proofs.YtognpkdgphebeaaGreat
open Go.RowKit Go.Maps

/-- A plan that was made, with where its rows lie. -/
structure Px where
  ca : Option Addr
  cc : Nat
  va : Option Addr
  vc : Nat
  X : List Cx
  U : List Vr
def pxCells (x : Px) : List Value := [.slice x.ca x.X.length x.cc, .slice x.va x.U.length x.vc]
theorem px_one (x : Px) : ∀ u ∈ pxCells x, u.oneCell' = true := by
  intro u hu
  simp [pxCells] at hu
  rcases hu with rfl | rfl <;> rfl
theorem infoPx : (Tryz.prog.info? 88).map (fun i => (i.zero, i.size, i.bytes)) = some (some (.agg #[.slice none 0 0, .slice none 0 0]), 2, 48) := by kernel_rfl
/-- Plans in a row. -/
structure PLS (w : World) (B : Nat) (a : Option Addr) (c : Nat) (P : List Px) (A : List Al) (bs : List Nat) : Prop where
  row : w.ownsRow B 88 2 (.slice a P.length c) P.length (P.flatMap pxCells)
  each : ∀ x ∈ P, PD w B x.ca x.cc x.va x.vc x.X x.U A bs
theorem PLS.keptB {w w' : World} {B : Nat} {a : Option Addr} {c : Nat} {P : List Px} {A : List Al} {bs : List Nat} (h : PLS w B a c P A bs) (hb : ∀ (k : Nat) (c : Array Value) (t : TypeId) (fr : Nat × Nat), w.heap[k]? = some (.cells c t fr) → (t = 88 ∨ t = 175 ∨ t = 101 ∨ t = 210) → w'.heap[k]? = some (.cells c t fr)) : PLS w' B a c P A bs :=
  ⟨owns_of_block h.row fun k hk => by
    obtain ⟨c', hc'⟩ := own_type h.row hk
    rw [hb k _ _ _ hc' (.inl rfl), hc'], fun x hx => (h.each x hx).keptB fun k c t fr hk ht => hb k c t fr hk (.inr ht)⟩
theorem PLS.bel {w w' : World} {B : Nat} {a : Option Addr} {c : Nat} {P : List Px} {A : List Al} {bs : List Nat} (h : PLS w B a c P A bs) (hb : Below w.heap.size w w') : PLS w' B a c P A bs :=
  h.keptB fun k _ _ _ hk _ => (hb.block k (lt_of_block' hk)).trans hk
theorem PLS.ft {base : Nat} {w w' : World} {B : Nat} {a : Option Addr} {c : Nat} {P : List Px} {A : List Al} {bs : List Nat} (h : PLS w B a c P A bs) (hf : FrT base w w') : PLS w' B a c P A bs :=
  h.keptB fun k c t fr hk ht => hf.kept k c t fr hk (by rcases ht with rfl | rfl | rfl | rfl <;> decide) (by rcases ht with rfl | rfl | rfl | rfl <;> decide)
theorem PD.ext {w : World} {B : Nat} {ca : Option Addr} {cc : Nat} {va : Option Addr} {vc : Nat} {X : List Cx} {U : List Vr} {A A' : List Al} {bs bs' : List Nat} (h : PD w B ca cc va vc X U A bs) (ha : ∀ (i : Nat) (y : Al), A[i]? = some y → A'[i]? = some y) (hb : ∀ (i n : Nat), bs[i]? = some n → bs'[i]? = some n) : PD w B ca cc va vc X U A' bs' :=
  ⟨h.conds, h.vars, h.tests, fun c hc => by
    obtain ⟨i, h1, h2⟩ := h.nodes c hc
    exact ⟨i, ha i _ h1, hb i _ h2⟩⟩
theorem PD.lower {w : World} {B B' : Nat} {ca : Option Addr} {cc : Nat} {va : Option Addr} {vc : Nat} {X : List Cx} {U : List Vr} {A : List Al} {bs : List Nat} (h : PD w B ca cc va vc X U A bs) (hB : B' ≤ B) : PD w B' ca cc va vc X U A bs :=
  ⟨owns_base h.conds hB, owns_base h.vars hB, fun c hc => owns_base (h.tests c hc) hB, h.nodes⟩
/-- One plan more: newPlan was called, and its answer appended. -/
theorem PLS.push {kl : Al → Lit} {w w6 w7 : World} {base gb mb B : Nat} {la : Option Addr} {lc : Nat} {L L' : List AlX} {bs bs' : List Nat} {D : DataW Unit} {a a' : Option Addr} {c c' : Nat} {P : List Px} {x : Px} {o : Obj} (h : PLS w B a c P (L.map Prod.fst) bs) (hN : NS kl w base gb mb la lc L bs D) (hf : Fr3 gb mb (Value.slice la L.length lc).ownBlock w w6) (he : ∀ (i n : Nat), bs[i]? = some n → bs'[i]? = some n) (ha : ∀ (i : Nat) (y : Al), (L.map Prod.fst)[i]? = some y → (L'.map Prod.fst)[i]? = some y)
    (hx : PD w6 B x.ca x.cc x.va x.vc x.X x.U (L'.map Prod.fst) bs') (hg : (w6.alloc o).grownBy w7 (Value.slice a P.length c).ownBlock) (ho : w7.ownsRow B 88 2 (.slice a' (P.length + 1) c') (P.length + 1) (P.flatMap pxCells ++ pxCells x)) : PLS w7 B a' c' (P ++ [x]) (L'.map Prod.fst) bs' := by
  have h6 : PLS w6 B a c P (L.map Prod.fst) bs := h.keptB fun k c t fr hk ht => hf.box hk hN (by rcases ht with rfl | rfl | rfl | rfl <;> decide) (by rcases ht with rfl | rfl | rfl | rfl <;> decide)
  have hA : Below w6.heap.size w6 (w6.alloc o) := (Below.refl _ _).alloc (Nat.le_refl _) _
  have h7 := h6.bel hA
  have TY := fun k hk => own_type h7.row (k := k) hk
  have far : ∀ (k : Nat) (c : Array Value) (t : TypeId) (fr : Nat × Nat), (w6.alloc o).heap[k]? = some (.cells c t fr) → (t = 175 ∨ t = 101 ∨ t = 210) → w7.heap[k]? = some (.cells c t fr) := fun k c t fr hk ht => box_grown hk hg TY (by rcases ht with rfl | rfl | rfl <;> decide)
  refine ⟨by simpa using ho, fun y hy => ?_⟩
  rcases List.mem_append.1 hy with hy | hy
  · exact ((h7.each y hy).ext ha he).keptB far
  · rw [List.mem_singleton.1 hy]
    exact (hx.bel hA).keptB far
/-- Facts with their pointers, as far as k. -/
def qUp (a : Option Addr) (fs : List F) : Nat → List (Value × F)
  | 0 => []
  | k + 1 => qUp a fs k ++ (match fs[k]?, a with | some f, some ad => [(.pointer (some ⟨ad.block, ad.off + k * 3, none⟩), f)] | _, _ => [])
theorem qUp_succ {b o : Nat} {fs : List F} {k : Nat} {f : F} (h : fs[k]? = some f) : qUp (some ⟨b, o, none⟩) fs (k + 1) = qUp (some ⟨b, o, none⟩) fs k ++ [(.pointer (some ⟨b, o + k * 3, none⟩), f)] := by simp [qUp, h]
theorem qUp_len (a : Option Addr) (fs : List F) : ∀ k, (qUp a fs k).length ≤ k
  | 0 => Nat.le_refl _
  | k + 1 => by
    have h := qUp_len a fs k
    simp only [qUp, List.length_append]
    split <;> simp <;> omega
theorem qUp_all {w : World} {a : Option Addr} {fs : List F} (h : FactsAt w a fs) : ∀ k, k ≤ fs.length → (qUp a fs k).map Prod.snd = fs.take k ∧ ∀ y ∈ qUp a fs k, FacAt w y.1 y.2
  | 0, _ => ⟨rfl, fun y hy => by simp [qUp] at hy⟩
  | k + 1, hk => by
    obtain ⟨h1, h2⟩ := qUp_all h k (by omega)
    obtain ⟨f, hf⟩ : ∃ f, fs[k]? = some f := ⟨fs[k], by simp [show k < fs.length by omega]⟩
    obtain ⟨b, o, rfl, c0, c1, a', c, c2, hv⟩ := h k f hf
    rw [qUp_succ hf]
    refine ⟨by rw [List.map_append, h1, List.take_add_one, hf]; rfl, fun y hy => ?_⟩
    rcases List.mem_append.1 hy with hy | hy
    · exact h2 y hy
    · rw [List.mem_singleton.1 hy]
      exact ⟨b, o + k * 3, rfl, c0, c1, a', c, c2, hv⟩
theorem sel_snd {x : Al} : ∀ (Q : List (Value × F)), (sel x Q).map Prod.snd = (Q.map Prod.snd).filter (passes x)
  | [] => rfl
  | y :: r => by
    unfold sel
    have ih := sel_snd (x := x) r
    unfold sel at ih
    by_cases h : passes x y.2 = true
    · rw [List.filter_cons_of_pos (by simpa using h), List.map_cons, List.map_cons, List.filter_cons_of_pos h, ih]
    · rw [List.filter_cons_of_neg (by simpa using h), List.map_cons, List.filter_cons_of_neg h, ih]
theorem JtsAt.owns {w : World} {base : Nat} {a : Option Addr} {c : Nat} {ts : List Jt} (h : w.ownsRow base 210 4 (.slice a ts.length c) ts.length (ts.flatMap jtCells)) : JtsAt w a ts := by
  intro i t hi
  have key := fun j u (hj : (jtCells t)[j]? = some u) => owns_cell h (flat_gen (cells := jtCells) (m := 4) (fun _ => rfl) ts i t j u hi hj)
  obtain ⟨k, rfl, _, h0, _⟩ := key 0 _ rfl
  obtain ⟨k1, e1, _, h1, _⟩ := key 1 _ rfl
  obtain ⟨k2, e2, _, h2, _⟩ := key 2 _ rfl
  obtain ⟨k3, e3, _, h3, _⟩ := key 3 _ rfl
  cases e1
  cases e2
  cases e3
  exact ⟨k, 0, rfl, by simpa using h0, by simpa using h1, by simpa using h2, by simpa using h3⟩
/-- A condition with the facts of its node. -/
def cnOf (fs : List F) (c : Cx) : Cn := ⟨c.cp.neg, c.cp.at_, c.node, c.cp.tests, c.cp.alpha, fs.filter (passes c.cp.alpha)⟩
theorem cnOf_cp (fs : List F) (c : Cx) : CnCp fs (cnOf fs c) c.cp := ⟨rfl, rfl, rfl, rfl, rfl⟩
/-- The conditions in memory, once the facts have come. -/
theorem PD.cns {w : World} {B base gb mb : Nat} {la : Option Addr} {lc : Nat} {L : List AlX} {bs : List Nat} {V : List Value} {Q : List (Value × F)} {fs : List F} {ca : Option Addr} {cc : Nat} {va : Option Addr} {vc : Nat} {X : List Cx} {U : List Vr} (h : PD w B ca cc va vc X U (L.map Prod.fst) bs) (hN : NF w base gb mb la lc L bs V (fun _ => Q)) (hQ : Q.map Prod.snd = fs) (hF : ∀ y ∈ Q, FacAt w y.1 y.2) : CnsAt w ca (X.map (cnOf fs)) := by
  intro i d hi
  rw [List.getElem?_map] at hi
  obtain ⟨c, hc, rfl⟩ := Option.map_eq_some_iff.1 hi
  have key := fun j u (hj : (cxCells c)[j]? = some u) => owns_cell h.conds (flat_gen (cells := cxCells) (m := 4) (fun _ => rfl) X i c j u hc hj)
  obtain ⟨k, rfl, _, h0, _⟩ := key 0 _ rfl
  obtain ⟨k1, e1, _, h1, _⟩ := key 1 _ rfl
  obtain ⟨k2, e2, _, h2, _⟩ := key 2 _ rfl
  obtain ⟨k3, e3, _, h3, _⟩ := key 3 _ rfl
  cases e1
  cases e2
  cases e3
  have hcm := List.mem_of_getElem? hc
  obtain ⟨m, hA, hb⟩ := h.nodes c hcm
  rw [List.getElem?_map] at hA
  obtain ⟨x, hx, hxa⟩ := Option.map_eq_some_iff.1 hA
  have hml : m < L.length := (List.getElem?_eq_some_iff.1 hx).1
  obtain ⟨v, hv⟩ : ∃ v, V[m]? = some v := ⟨V[m]'(by rw [hN.lenv]; exact hml), by simp⟩
  obtain ⟨n1, _, ⟨fa, fc, rfl⟩, n4⟩ := hN.node m x c.node v hx hb hv
  obtain ⟨na, nc, hnd⟩ := n1.nd (hN.als x (List.mem_of_getElem? hx))
  rw [hxa] at hnd n1 n4
  have hsl : (sel c.cp.alpha Q).map Prod.snd = fs.filter (passes c.cp.alpha) := by rw [sel_snd, hQ]
  have hlen : (sel c.cp.alpha Q).length = (fs.filter (passes c.cp.alpha)).length := by rw [← hsl, List.length_map]
  obtain ⟨⟨_, _, _, y4⟩, _⟩ := n1.facts
  refine ⟨k, 0, c.ta, c.tc, rfl, by simpa [cnOf] using h0, by simpa [cnOf] using h1, by simpa [cnOf] using h2, by simpa [cnOf] using h3, ⟨JtsAt.owns (h.tests c hcm), ⟨na, nc, hnd⟩, fa, fc, ?_, ?_⟩⟩
  · show w.cell? ⟨c.node, 4, none⟩ = some (.slice fa (fs.filter (passes c.cp.alpha)).length fc)
    rw [← hlen]
    exact y4
  · intro j f hj
    have hj' : ((sel c.cp.alpha Q).map Prod.snd)[j]? = some f := by rw [hsl]; exact hj
    rw [List.getElem?_map] at hj'
    obtain ⟨y, hy, rfl⟩ := Option.map_eq_some_iff.1 hj'
    obtain ⟨g, rfl, _, hg, _⟩ := owns_cell n4 (show ((sel c.cp.alpha Q).map Prod.fst)[j]? = some y.1 by rw [List.getElem?_map, hy]; rfl)
    exact ⟨g, 0, y.1, rfl, by simpa using hg, hF y (List.mem_filter.1 (List.mem_of_getElem? hy)).1⟩
theorem planGo_small : ∀ (ps : List Pt) (vs : List Vr) (n : Nat), (∀ p ∈ ps, p.terms.length ≤ 6) → ∀ d ∈ planGo ps vs n, d.tests.length ≤ 6 ∧ d.alpha.tests.length ≤ 6
  | [], _, _, _, d, hd => by simp [planGo] at hd
  | p :: ps, vs, n, h, d, hd => by
    rw [planGo_cons] at hd
    have hr : ∀ q ∈ ps, q.terms.length ≤ 6 := fun q hq => h q (by simp [hq])
    rcases List.mem_cons.1 hd with rfl | hd
    · exact ⟨Nat.le_trans (jtsUpTo_len _ _ _) (h p (by simp)), alphaOf_len p⟩
    · split at hd
      · exact planGo_small ps _ _ hr d hd
      · exact planGo_small ps _ _ hr d hd
/-- A plan of a rule, in memory. -/
structure PlnAt (w : World) (fs : List F) (ca : Option Addr) (va : Option Addr) (r : Ru) (cs : List Cn) : Prop where
  conds : CnsAt w ca cs
  vars : VrsAt w va (varsGo r.pats [] 0)
  len : cs.length = (planGo r.pats [] 0).length
  each : ∀ (k : Nat) (c : Cn) (d : Cp), cs[k]? = some c → (planGo r.pats [] 0)[k]? = some d → CnCp fs c d
  small : ∀ c ∈ cs, smallC c
theorem PD.pln {w : World} {B base gb mb : Nat} {la : Option Addr} {lc : Nat} {L : List AlX} {bs : List Nat} {V : List Value} {Q : List (Value × F)} {fs : List F} {ca : Option Addr} {cc : Nat} {va : Option Addr} {vc : Nat} {X : List Cx} {r : Ru} (h : PD w B ca cc va vc X (varsGo r.pats [] 0) (L.map Prod.fst) bs) (hN : NF w base gb mb la lc L bs V (fun _ => Q)) (hQ : Q.map Prod.snd = fs) (hF : ∀ y ∈ Q, FacAt w y.1 y.2) (hX : X.map Cx.cp = planGo r.pats [] 0) (ht : ∀ p ∈ r.pats, p.terms.length ≤ 6) (hf : fs.length ≤ 40) : PlnAt w fs ca va r (X.map (cnOf fs)) := by
  refine ⟨h.cns hN hQ hF, VrsAt.owns h.vars, by rw [← hX]; simp, fun k c d hc hd => ?_, fun c hc => ?_⟩
  · rw [← hX, List.getElem?_map] at hd
    rw [List.getElem?_map] at hc
    obtain ⟨x, hx, rfl⟩ := Option.map_eq_some_iff.1 hc
    rw [hx] at hd
    cases hd
    exact cnOf_cp fs x
  · obtain ⟨x, hx, rfl⟩ := List.mem_map.1 hc
    obtain ⟨h1, h2⟩ := planGo_small r.pats [] 0 ht x.cp (by rw [← hX]; exact List.mem_map.2 ⟨x, hx, rfl⟩)
    exact ⟨Nat.le_trans h1 (by decide), Nat.le_trans (List.length_filter_le _ _) (by omega), Nat.le_trans h2 (by decide)⟩
end Go.Proofs.YtognpkdgphebeaaGreat
