/-
  OUR OWN TEXT. Nd4, Nd5, one behind the other.
-/
import Derived.Test.YtognpkdgphebeaaGreatUm
import Derived.Test.YtognpkdgphebeaaGreatUg
namespace Go.Proofs.YtognpkdgphebeaaGreat
open Go.RowKit Go.Maps

/-- A condition with its node and its tests' row. -/
structure Cx where
  cp : Cp
  node : Nat
  ta : Option Addr
  tc : Nat
def cxCells (c : Cx) : List Value := [.bool c.cp.neg, .int .i64 (c.cp.at_ : Int), .pointer (some ⟨c.node, 0, none⟩), .slice c.ta c.cp.tests.length c.tc]
theorem cx_one (c : Cx) : ∀ u ∈ cxCells c, u.oneCell' = true := by
  intro u hu
  simp [cxCells] at hu
  rcases hu with rfl | rfl | rfl | rfl <;> rfl
/-- The variables of a plan. -/
def varsGo : List Pt → List Vr → Nat → List Vr
  | [], vs, _ => vs
  | p :: ps, vs, n => if p.neg = true then varsGo ps vs n else varsGo ps (bindUpTo vs p.terms n p.terms.length) (n + 1)
theorem own_turnedP {w w' : World} {base b : Nat} {e t : TypeId} {m : Nat} {v : Value} {n : Nat} {xs : List Value} {c : Array Value} {fr : Nat × Nat} (h : w.ownsRow base e m v n xs) (hb : w.heap[b]? = some (.cells c t fr)) (ht : Turned w w' b) (hne : t ≠ e) : w'.ownsRow base e m v n xs :=
  owns_of_block h fun k hk => ht.block k (fun e => by
    obtain ⟨c', hc'⟩ := own_type h hk
    subst e
    exact own_far hb hc' hne)
theorem Fr3.then_below {gb mb : Nat} {row : Option Nat} {u v w : World} (h : Fr3 gb mb row u v) (k : Below u.heap.size v w) : Fr3 gb mb row u w := ⟨h.rest.trans (k.mono (Nat.zero_le _)), fun j hj h1 h2 h3 => (k.block j hj).trans (h.block j hj h1 h2 h3)⟩
theorem Fr3.then_fr {gb mb : Nat} {row row' : Option Nat} {u v w : World} (h : Fr3 gb mb row u v) (k : Fr3 gb mb row' v w) (hr : ∀ g, row' = some g → row = some g ∨ u.heap.size ≤ g) : Fr3 gb mb row u w := ⟨h.rest.trans k.rest, fun j hj h1 h2 h3 => (k.block j (Nat.lt_of_lt_of_le hj h.rest.size) h1 h2 (fun e => by rcases hr j e with h' | h'; exact h3 h'; omega)).trans (h.block j hj h1 h2 h3)⟩
theorem NS.turnedC {kl : Al → Lit} {w w' : World} {base gb mb : Nat} {la : Option Addr} {lc : Nat} {L : List AlX} {bs : List Nat} {D : DataW Unit} {b : Nat} {c : Array Value} {t : TypeId} {fr : Nat × Nat} (h : NS kl w base gb mb la lc L bs D) (hb : w.heap[b]? = some (.cells c t fr)) (ht : Turned w w' b) (hne : ¬ NTy t) : NS kl w' base gb mb la lc L bs D :=
  h.keptB fun k hk hty => ht.block k (fun e => by
    subst e
    exact hne (hty _ _ _ hb))
theorem PlB.set0 {w : World} {b : Nat} {v0 v1 : Value} (h : PlB w b v0 v1) (x : Value) : PlB (w.setCell ⟨b, 0, none⟩ x) b x v1 := by
  have := heap_setCell_same (i := 0) h x
  simpa [PlB] using this
theorem lift_pl0 {P : World → Prop} {w : World} {b : Nat} {v0 v1 y : Value} (h0 : PlB w b v0 v1) (h : ∀ wt, PlB wt b y v1 → Turned w wt b → P wt) : P (w.setCell ⟨b, 0, none⟩ y) := h _ (h0.set0 y) (Turned.setCells [y] 0 w b)
/-- A plan that is being made: its box, its rows; the nodes of its conditions. -/
structure PN (w : World) (B pb : Nat) (ca : Option Addr) (cc : Nat) (va : Option Addr) (vc : Nat) (X : List Cx) (U : List Vr) (A : List Al) (bs : List Nat) : Prop where
  box : PlB w pb (.slice ca X.length cc) (.slice va U.length vc)
  conds : w.ownsRow B 175 4 (.slice ca X.length cc) X.length (X.flatMap cxCells)
  vars : w.ownsRow B 101 3 (.slice va U.length vc) U.length (U.flatMap vrCells)
  tests : ∀ c ∈ X, w.ownsRow B 210 4 (.slice c.ta c.cp.tests.length c.tc) c.cp.tests.length (c.cp.tests.flatMap jtCells)
  nodes : ∀ c ∈ X, ∃ i : Nat, A[i]? = some c.cp.alpha ∧ bs[i]? = some c.node
theorem PN.keptB {w w' : World} {B pb : Nat} {ca : Option Addr} {cc : Nat} {va : Option Addr} {vc : Nat} {X : List Cx} {U : List Vr} {A : List Al} {bs : List Nat} (h : PN w B pb ca cc va vc X U A bs) (hb : ∀ (k : Nat) (c : Array Value) (t : TypeId) (fr : Nat × Nat), w.heap[k]? = some (.cells c t fr) → (t = 88 ∨ t = 175 ∨ t = 101 ∨ t = 210) → w'.heap[k]? = some (.cells c t fr)) : PN w' B pb ca cc va vc X U A bs := by
  have keyO : ∀ {e : TypeId} {m : Nat} {v : Value} {n : Nat} {xs : List Value}, w.ownsRow B e m v n xs → (e = 88 ∨ e = 175 ∨ e = 101 ∨ e = 210) → w'.ownsRow B e m v n xs := fun ho he => owns_of_block ho fun k hk => by
    obtain ⟨c, hc⟩ := own_type ho hk
    rw [hb k _ _ _ hc he, hc]
  exact ⟨hb _ _ _ _ h.box (.inl rfl), keyO h.conds (.inr (.inl rfl)), keyO h.vars (.inr (.inr (.inl rfl))), fun c hc => keyO (h.tests c hc) (.inr (.inr (.inr rfl))), h.nodes⟩
theorem PN.bel {w w' : World} {B pb : Nat} {ca : Option Addr} {cc : Nat} {va : Option Addr} {vc : Nat} {X : List Cx} {U : List Vr} {A : List Al} {bs : List Nat} (h : PN w B pb ca cc va vc X U A bs) (hb : Below w.heap.size w w') : PN w' B pb ca cc va vc X U A bs :=
  h.keptB fun k _ _ _ hk _ => (hb.block k (lt_of_block' hk)).trans hk
/-- A plan that was made: its rows, the nodes of its conditions. -/
structure PD (w : World) (B : Nat) (ca : Option Addr) (cc : Nat) (va : Option Addr) (vc : Nat) (X : List Cx) (U : List Vr) (A : List Al) (bs : List Nat) : Prop where
  conds : w.ownsRow B 175 4 (.slice ca X.length cc) X.length (X.flatMap cxCells)
  vars : w.ownsRow B 101 3 (.slice va U.length vc) U.length (U.flatMap vrCells)
  tests : ∀ c ∈ X, w.ownsRow B 210 4 (.slice c.ta c.cp.tests.length c.tc) c.cp.tests.length (c.cp.tests.flatMap jtCells)
  nodes : ∀ c ∈ X, ∃ i : Nat, A[i]? = some c.cp.alpha ∧ bs[i]? = some c.node
theorem PD.keptB {w w' : World} {B : Nat} {ca : Option Addr} {cc : Nat} {va : Option Addr} {vc : Nat} {X : List Cx} {U : List Vr} {A : List Al} {bs : List Nat} (h : PD w B ca cc va vc X U A bs) (hb : ∀ (k : Nat) (c : Array Value) (t : TypeId) (fr : Nat × Nat), w.heap[k]? = some (.cells c t fr) → (t = 175 ∨ t = 101 ∨ t = 210) → w'.heap[k]? = some (.cells c t fr)) : PD w' B ca cc va vc X U A bs := by
  have keyO : ∀ {e : TypeId} {m : Nat} {v : Value} {n : Nat} {xs : List Value}, w.ownsRow B e m v n xs → (e = 175 ∨ e = 101 ∨ e = 210) → w'.ownsRow B e m v n xs := fun ho he => owns_of_block ho fun k hk => by
    obtain ⟨c, hc⟩ := own_type ho hk
    rw [hb k _ _ _ hc he, hc]
  exact ⟨keyO h.conds (.inl rfl), keyO h.vars (.inr (.inl rfl)), fun c hc => keyO (h.tests c hc) (.inr (.inr rfl)), h.nodes⟩
theorem PD.bel {w w' : World} {B : Nat} {ca : Option Addr} {cc : Nat} {va : Option Addr} {vc : Nat} {X : List Cx} {U : List Vr} {A : List Al} {bs : List Nat} (h : PD w B ca cc va vc X U A bs) (hb : Below w.heap.size w w') : PD w' B ca cc va vc X U A bs :=
  h.keptB fun k _ _ _ hk _ => (hb.block k (lt_of_block' hk)).trans hk
theorem PN.pd {w : World} {B pb : Nat} {ca : Option Addr} {cc : Nat} {va : Option Addr} {vc : Nat} {X : List Cx} {U : List Vr} {A : List Al} {bs : List Nat} (h : PN w B pb ca cc va vc X U A bs) : PD w B ca cc va vc X U A bs := ⟨h.conds, h.vars, h.tests, h.nodes⟩
/-- The state of the making: nodes, plan, and what has been written since w. -/
structure PS (kl : Al → Lit) (w : World) (R0 : Option Nat) (bs0 : List Nat) (A0 : List Al) (base gb mb pb : Nat) (la : Option Addr) (lc : Nat) (L : List AlX) (bs : List Nat) (D : DataW Unit) (ca : Option Addr) (cc : Nat) (va : Option Addr) (vc : Nat) (X : List Cx) (U : List Vr) (wr : World) : Prop where
  ns : NS kl wr base gb mb la lc L bs D
  pn : PN wr w.heap.size pb ca cc va vc X U (L.map Prod.fst) bs
  fr : Fr3 gb mb R0 w wr
  rw' : ∀ g, (Value.slice la L.length lc).ownBlock = some g → R0 = some g ∨ w.heap.size ≤ g
  ext : ∀ (i n : Nat), bs0[i]? = some n → bs[i]? = some n
  exa : ∀ (i : Nat) (y : Al), A0[i]? = some y → (L.map Prod.fst)[i]? = some y
  six : ∀ x ∈ L, x.1.tests.length ≤ 6
theorem PS.bel {kl : Al → Lit} {w wr w' : World} {R0 : Option Nat} {bs0 : List Nat} {A0 : List Al} {base gb mb pb : Nat} {la : Option Addr} {lc : Nat} {L : List AlX} {bs : List Nat} {D : DataW Unit} {ca : Option Addr} {cc : Nat} {va : Option Addr} {vc : Nat} {X : List Cx} {U : List Vr} (h : PS kl w R0 bs0 A0 base gb mb pb la lc L bs D ca cc va vc X U wr) (hb : Below wr.heap.size wr w') : PS kl w R0 bs0 A0 base gb mb pb la lc L bs D ca cc va vc X U w' :=
  ⟨h.ns.bel hb, h.pn.bel hb, h.fr.then_below (hb.mono h.fr.rest.size), h.rw', h.ext, h.exa, h.six⟩
theorem addA_ext {A : List Al} {x y : Al} {i : Nat} (h : A[i]? = some y) : (addA A x)[i]? = some y := by
  unfold addA
  split
  · exact h
  · rw [List.getElem?_append_left (List.getElem?_eq_some_iff.1 h).1]
    exact h
theorem PS.of {kl : Al → Lit} {w wr w' : World} {R0 : Option Nat} {bs0 : List Nat} {A0 : List Al} {base gb mb pb : Nat} {la la' : Option Addr} {lc lc' : Nat} {L L' : List AlX} {bs bs' : List Nat} {D D' : DataW Unit} {ca : Option Addr} {cc : Nat} {va : Option Addr} {vc : Nat} {X : List Cx} {U : List Vr} {x : Al} (h : PS kl w R0 bs0 A0 base gb mb pb la lc L bs D ca cc va vc X U wr) (hn : NS kl w' base gb mb la' lc' L' bs' D') (hx6 : x.tests.length ≤ 6) (hL : L'.map Prod.fst = addA (L.map Prod.fst) x) (hf : Fr3 gb mb (Value.slice la L.length lc).ownBlock wr w') (he : ∀ (i n : Nat), bs[i]? = some n → bs'[i]? = some n) (hr : ∀ g, (Value.slice la' L'.length lc').ownBlock = some g → (Value.slice la L.length lc).ownBlock = some g ∨ wr.heap.size ≤ g) : PS kl w R0 bs0 A0 base gb mb pb la' lc' L' bs' D' ca cc va vc X U w' := by
  have hp : PN w' w.heap.size pb ca cc va vc X U (L.map Prod.fst) bs := h.pn.keptB fun k c t fr hk ht => hf.box hk h.ns (by rcases ht with rfl | rfl | rfl | rfl <;> decide) (by rcases ht with rfl | rfl | rfl | rfl <;> decide)
  refine ⟨hn, ⟨hp.box, hp.conds, hp.vars, hp.tests, fun c hc => ?_⟩, h.fr.then_fr hf h.rw', fun g hg => ?_, fun i n hi => he i n (h.ext i n hi), fun i y hi => by rw [hL]; exact addA_ext (h.exa i y hi), fun y hy => ?_⟩
  · obtain ⟨i, h1, h2⟩ := hp.nodes c hc
    exact ⟨i, by rw [hL]; exact addA_ext h1, he i _ h2⟩
  · rcases hr g hg with h1 | h1
    · exact h.rw' g h1
    · exact .inr (Nat.le_trans h.fr.rest.size h1)
  · have hm : y.1 ∈ addA (L.map Prod.fst) x := by rw [← hL]; exact List.mem_map.2 ⟨y, hy, rfl⟩
    unfold addA at hm
    split at hm
    · obtain ⟨z, hz, e⟩ := List.mem_map.1 hm
      rw [← e]
      exact h.six z hz
    · rcases List.mem_append.1 hm with hm | hm
      · obtain ⟨z, hz, e⟩ := List.mem_map.1 hm
        rw [← e]
        exact h.six z hz
      · rw [List.mem_singleton.1 hm]
        exact hx6
/-- One condition more. -/
theorem PS.push {kl : Al → Lit} {w wr w7 w8 : World} {R0 : Option Nat} {bs0 : List Nat} {A0 : List Al} {base gb mb pb : Nat} {la : Option Addr} {lc : Nat} {L : List AlX} {bs : List Nat} {D : DataW Unit} {ca ca' : Option Addr} {cc cc' : Nat} {va : Option Addr} {vc : Nat} {X : List Cx} {U : List Vr} {c : Cx} {o : Obj} (h : PS kl w R0 bs0 A0 base gb mb pb la lc L bs D ca cc va vc X U wr) (ht : wr.ownsRow w.heap.size 210 4 (.slice c.ta c.cp.tests.length c.tc) c.cp.tests.length (c.cp.tests.flatMap jtCells)) (hnd : ∃ i : Nat, (L.map Prod.fst)[i]? = some c.cp.alpha ∧ bs[i]? = some c.node) (hpb : w.heap.size ≤ pb)
    (ho7 : w7.ownsRow w.heap.size 175 4 (.slice ca' (X.length + 1) cc') (X.length + 1) (X.flatMap cxCells ++ cxCells c)) (hg7 : (wr.alloc o).grownBy w7 (Value.slice ca X.length cc).ownBlock) (hP8 : PlB w8 pb (.slice ca' (X.length + 1) cc') (.slice va U.length vc)) (ht8 : Turned w7 w8 pb) :
    PS kl w R0 bs0 A0 base gb mb pb la lc L bs D ca' cc' va vc (X ++ [c]) U w8 := by
  have hA : Below wr.heap.size wr (wr.alloc o) := (Below.refl _ _).alloc (Nat.le_refl _) _
  have hsz := h.fr.rest.size
  have h1 := h.bel hA
  have ht1 := own_bel ht hA
  have TY := fun k hk => own_type h1.pn.conds (k := k) hk
  have hP7 : PlB w7 pb (.slice ca X.length cc) (.slice va U.length vc) := box_grown h1.pn.box hg7 TY (by decide)
  have n7 := h1.ns.grown hg7 TY (by unfold NTy; decide)
  have v7 := own_grown h1.pn.vars hg7 TY (by decide)
  have t7 := own_grown ht1 hg7 TY (by decide)
  refine ⟨n7.turnedC hP7 ht8 (by unfold NTy; decide), ⟨by simpa using hP8, ?_, own_turnedP v7 hP7 ht8 (by decide), fun d hd => ?_, fun d hd => ?_⟩, ?_, h.rw', h.ext, h.exa, h.six⟩
  · have := own_turnedP ho7 hP7 ht8 (by decide)
    simpa using this
  · rcases List.mem_append.1 hd with hd | hd
    · exact own_turnedP (own_grown (h1.pn.tests d hd) hg7 TY (by decide)) hP7 ht8 (by decide)
    · simp at hd
      subst hd
      exact own_turnedP t7 hP7 ht8 (by decide)
  · rcases List.mem_append.1 hd with hd | hd
    · exact h.pn.nodes d hd
    · simp at hd
      subst hd
      exact hnd
  · refine h1.fr.then_below (((Below.refl _ _).grown hg7 (by simp; omega) (fun k hk => (h1.pn.conds.lt k hk).1)).trans (ht8.below hpb))
/-- A condition's box is filled. -/
theorem PS.fill {kl : Al → Lit} {w wr w' : World} {R0 : Option Nat} {bs0 : List Nat} {A0 : List Al} {base gb mb pb : Nat} {la : Option Addr} {lc : Nat} {L : List AlX} {bs : List Nat} {D : DataW Unit} {ca : Option Addr} {cc : Nat} {va : Option Addr} {vc : Nat} {X : List Cx} {U : List Vr} {b : Nat} {c : Array Value} {fr : Nat × Nat} (h : PS kl w R0 bs0 A0 base gb mb pb la lc L bs D ca cc va vc X U wr) (hb : wr.heap[b]? = some (.cells c 175 fr)) (ht : Turned wr w' b) (hne : ∀ g, (Value.slice ca X.length cc).ownBlock = some g → g ≠ b) (hwb : w.heap.size ≤ b) : PS kl w R0 bs0 A0 base gb mb pb la lc L bs D ca cc va vc X U w' :=
  ⟨h.ns.turnedC hb ht (by unfold NTy; decide), ⟨(ht.block pb (fun e => by subst e; exact own_far h.pn.box hb (by decide))).trans h.pn.box, owns_of_block h.pn.conds (fun k hk => ht.block k (hne k hk)), own_turnedP h.pn.vars hb ht (by decide), fun d hd => own_turnedP (h.pn.tests d hd) hb ht (by decide), h.pn.nodes⟩, h.fr.then_below (ht.below hwb), h.rw', h.ext, h.exa, h.six⟩
theorem box_turned {w w' : World} {b d : Nat} {c c' : Array Value} {t t' : TypeId} {fr fr' : Nat × Nat} (h : w.heap[b]? = some (.cells c t fr)) (hd : w.heap[d]? = some (.cells c' t' fr')) (ht : Turned w w' d) (hne : t ≠ t') : w'.heap[b]? = some (.cells c t fr) :=
  (ht.block b (fun e => by subst e; exact own_far h hd hne)).trans h
/-- A pattern's variables more. -/
theorem PS.bindP {kl : Al → Lit} {w wr w' : World} {R0 : Option Nat} {bs0 : List Nat} {A0 : List Al} {base gb mb pb : Nat} {la : Option Addr} {lc : Nat} {L : List AlX} {bs : List Nat} {D : DataW Unit} {ca : Option Addr} {cc : Nat} {va va' : Option Addr} {vc vc' : Nat} {X : List Cx} {U U' : List Vr} (h : PS kl w R0 bs0 A0 base gb mb pb la lc L bs D ca cc va vc X U wr) (hpb : w.heap.size ≤ pb) (hP : PlB w' pb (.slice ca X.length cc) (.slice va' U'.length vc')) (hO : w'.ownsRow w.heap.size 101 3 (.slice va' U'.length vc') U'.length (U'.flatMap vrCells)) (hF : Fp pb (Value.slice va U.length vc).ownBlock wr w') : PS kl w R0 bs0 A0 base gb mb pb la lc L bs D ca cc va' vc' X U' w' := by
  have hsz := h.fr.rest.size
  have far : ∀ (k : Nat) (c : Array Value) (t : TypeId) (fr : Nat × Nat), wr.heap[k]? = some (.cells c t fr) → t ≠ 88 → t ≠ 101 → w'.heap[k]? = some (.cells c t fr) := fun k c t fr hk h1 h2 => by
    refine (hF.block k (lt_of_block' hk) (fun e => ?_) (fun e => ?_)).trans hk
    · subst e
      exact own_far hk h.pn.box h1
    · obtain ⟨c', hc'⟩ := own_type h.pn.vars e
      exact own_far hk hc' h2
  have farO : ∀ {e : TypeId} {m : Nat} {v : Value} {n : Nat} {xs : List Value}, wr.ownsRow w.heap.size e m v n xs → e ≠ 88 → e ≠ 101 → w'.ownsRow w.heap.size e m v n xs := fun ho h1 h2 => owns_of_block ho fun k hk => by
    obtain ⟨c, hc⟩ := own_type ho hk
    rw [far k _ _ _ hc h1 h2, hc]
  refine ⟨h.ns.keptB fun k hk hty => hF.block k hk (fun e => ?_) (fun e => ?_), ⟨hP, farO h.pn.conds (by decide) (by decide), hO, fun d hd => farO (h.pn.tests d hd) (by decide) (by decide), h.pn.nodes⟩, ?_, h.rw', h.ext, h.exa, h.six⟩
  · subst e
    exact absurd (hty _ _ _ h.pn.box) (by unfold NTy; decide)
  · obtain ⟨c', hc'⟩ := own_type h.pn.vars e
    exact absurd (hty _ _ _ hc') (by unfold NTy; decide)
  · exact h.fr.then_below ⟨hF.rest.os, hF.rest.tape, hF.rest.output, hF.rest.size, fun k hk => hF.block k (Nat.lt_of_lt_of_le hk hsz) (by omega) (fun e => by have := (h.pn.vars.lt k e).1; omega)⟩
theorem infoCx : (Tryz.prog.info? 175).map (fun i => (i.zero, i.size, i.bytes)) = some (some (.agg #[.bool false, .int .i64 0, .pointer none, .slice none 0 0]), 4, 48) := by kernel_rfl
theorem addA_at (A : List Al) (x : Al) : (addA A x)[seekA x A]? = some x := by
  by_cases h : seekA x A < A.length
  · rw [addA_has h]
    exact seekA_at h
  · rw [addA_new h, seekA_new h]
    simp
theorem planGo_cons (p : Pt) (ps : List Pt) (vs : List Vr) (n : Nat) : planGo (p :: ps) vs n = ⟨p.neg, n, alphaOf p, jtsUpTo vs p.terms p.terms.length⟩ :: (if p.neg = true then planGo ps vs n else planGo ps (bindUpTo vs p.terms n p.terms.length) (n + 1)) := rfl
theorem varsGo_cons (p : Pt) (ps : List Pt) (vs : List Vr) (n : Nat) : varsGo (p :: ps) vs n = if p.neg = true then varsGo ps vs n else varsGo ps (bindUpTo vs p.terms n p.terms.length) (n + 1) := rfl
theorem lift_s4P {P : World → Prop} {w : World} {b : Nat} {t : TypeId} {x0 x1 x2 x3 y0 y1 y2 y3 : Value} (h0 : w.heap[b]? = some (.cells #[x0, x1, x2, x3] t (0, 0))) (h : ∀ wt, wt.heap[b]? = some (.cells #[y0, y1, y2, y3] t (0, 0)) → Turned w wt b → P wt) : P ((((w.setCell ⟨b, 0, none⟩ y0).setCell ⟨b, 1, none⟩ y1).setCell ⟨b, 2, none⟩ y2).setCell ⟨b, 3, none⟩ y3) := by
  have h1 := heap_setCell_same (i := 0) h0 y0
  have h2 := heap_setCell_same (i := 1) h1 y1
  have h3 := heap_setCell_same (i := 2) h2 y2
  have h4 := heap_setCell_same (i := 3) h3 y3
  exact h _ (by simpa using h4) (Turned.setCells [y0, y1, y2, y3] 0 w b)
end Go.Proofs.YtognpkdgphebeaaGreat

namespace Go.Proofs.YtognpkdgphebeaaGreat
open Go.RowKit Go.Maps
attribute [local go_sem ↓] Go.wp_at_zero Go.wp_at_succ

/-- What newPlan leaves. -/
def NpPost (kl : Al → Lit) (base gb mb : Nat) (la : Option Addr) (lc : Nat) (L : List AlX) (bs : List Nat) (r : Ru) (w : World) (e : Ending) (w' : World) : Prop :=
  ∃ la' lc' L' bs' D' ca cc va vc X, e = .returned (.agg #[.slice ca X.length cc, .slice va (varsGo r.pats [] 0).length vc]) ∧ X.map Cx.cp = planGo r.pats [] 0 ∧ NS kl w' base gb mb la' lc' L' bs' D' ∧ PD w' w.heap.size ca cc va vc X (varsGo r.pats [] 0) (L'.map Prod.fst) bs' ∧ Fr3 gb mb (Value.slice la L.length lc).ownBlock w w' ∧ (∀ g, (Value.slice la' L'.length lc').ownBlock = some g → (Value.slice la L.length lc).ownBlock = some g ∨ w.heap.size ≤ g) ∧ (∀ (i n : Nat), bs[i]? = some n → bs'[i]? = some n) ∧ (∀ (i : Nat) (y : Al), (L.map Prod.fst)[i]? = some y → (L'.map Prod.fst)[i]? = some y) ∧ L'.length ≤ L.length + r.pats.length ∧ (∀ x ∈ L', x.1.tests.length ≤ 6)
set_option maxRecDepth 100000 in
set_option maxHeartbeats 12800000 in
theorem newPlan_any (kl : Al → Lit) (K : KLA kl) (r : Ru) (a_p : Option Addr) (c_p : Nat) (a_e : Option Addr) (c_e : Nat) (a_c : Option Addr) (c_c : Nat) {q : Option Nat} (base gb mb : Nat) (la : Option Addr) (lc : Nat) (L : List AlX) (bs : List Nat) (D : DataW Unit) (wA w : World) (hA : Below wA.heap.size wA w) (hAB : wA.heap.size ≤ base) (hbase : base ≤ w.heap.size) (h_p : PtsAt q wA a_p r.pats) (hN : NS kl w base gb mb la lc L bs D) (hp6 : r.pats.length ≤ 6) (ht6 : ∀ p ∈ r.pats, p.terms.length ≤ 6) (hle : ∀ p ∈ r.pats, Pt.le 1048576 p) (hvo : ∀ p ∈ r.pats, ∀ t ∈ p.terms, VOk t.val) (hL : L.length ≤ 900) (h6 : ∀ x ∈ L, x.1.tests.length ≤ 6) :
    Calls Tryz.prog 89 #[.agg #[.string r.name, .int .i64 r.sal, .slice a_p r.pats.length c_p, .slice a_e r.exprs.length c_e, .slice a_c r.acts.length c_c], .pointer (some ⟨gb, 0, none⟩)] w (NpPost kl base gb mb la lc L bs r w) := by
  have HBL := hidP (show ∀ wr, Fr3 gb mb (Value.slice la L.length lc).ownBlock w wr → Below wA.heap.size wA wr from fun wr hf => hA.trans (hf.below (by omega) (Nat.le_trans hAB hN.gbase.1) (Nat.le_trans hAB hN.gbase.2) (fun k hk => Nat.le_trans hAB (hN.row.lt k hk).1)))
  have HP := hidP h_p
  have HN := hidP hN
  have HT6 := hidP ht6
  have HLE := hidP hle
  have HVO := hidP hvo
  have H6 := hidP h6
  clear h_p hN ht6 hle hvo hA h6
  go_enter Tryz.func89, Tryz.ntmps89
  go_upto_region 2 with fail
  refine lift3P ?_
  intro w0 hW0 hq0 hq1 hq2
  have f2 : w0.cell? ⟨w.heap.size, 2, none⟩ = some (.slice a_p r.pats.length c_p) := by simp [World.cell?, hq0]
  obtain ⟨rb, hrb⟩ : ∃ b, b = w.heap.size + 1 := ⟨_, rfl⟩
  obtain ⟨pb, hpb⟩ : ∃ b, b = rb + 1 := ⟨_, rfl⟩
  rw [← hrb] at hq1 ⊢
  rw [show w.heap.size + 2 = pb by omega] at hq2
  rw [← hpb]
  have RB0 := hidP (show PlB w0 rb (.slice none 0 0) (.slice none 0 0) from hq1)
  have PS0 := hidP (show PS kl w (Value.slice la L.length lc).ownBlock bs (L.map Prod.fst) base gb mb pb la lc L bs D none 0 none 0 [] [] w0 from ⟨HN.out.bel hW0, ⟨hq2, World.ownsRow_nil _ _ _ _, World.ownsRow_nil _ _ _ _, fun c hc => by simp at hc, fun c hc => by simp at hc⟩, Fr3.of_below hW0, fun g hg => .inl hg, fun _ _ h => h, fun _ _ h => h, H6.out⟩)
  have hpbw : w.heap.size ≤ pb := by omega
  have hrp : rb < pb := by omega
  have hrw0 : w.heap.size ≤ rb := by omega
  clear hW0 hq0 hq1 hq2 hrb hpb
  go_wp2_with fail
  clear f2
  go_loopw [13, 6] (fun iv cv wr => ∃ (k n : Nat) (la' : Option Addr) (lc' : Nat) (L' : List AlX) (bs' : List Nat) (D' : DataW Unit) (ca : Option Addr) (cc : Nat) (va : Option Addr) (vc : Nat) (X : List Cx) (U : List Vr), iv = .int .i64 (k : Int) ∧ cv = .int .i64 (n : Int) ∧ k ≤ r.pats.length ∧ planGo r.pats [] 0 = X.map Cx.cp ++ planGo (r.pats.drop k) U n ∧ varsGo r.pats [] 0 = varsGo (r.pats.drop k) U n ∧ L'.length ≤ L.length + k ∧ X.length ≤ k ∧ U.length ≤ 6 * k ∧ n ≤ k ∧ PS kl w (Value.slice la L.length lc).ownBlock bs (L.map Prod.fst) base gb mb pb la' lc' L' bs' D' ca cc va vc X U wr ∧ PlB wr rb (.slice none 0 0) (.slice none 0 0)) (fun iv _ _ => r.pats.length - (intOf iv).toNat)
  case atStart => exact ⟨0, 0, la, lc, L, bs, D, none, 0, none, 0, [], [], rfl, rfl, Nat.zero_le _, rfl, rfl, Nat.le_refl _, Nat.le_refl _, Nat.le_refl _, Nat.le_refl _, PS0.out, RB0.out⟩
  case round =>
    obtain ⟨L0, hL0⟩ : ∃ v, v = L := ⟨L, rfl⟩
    obtain ⟨bs0, hbs0⟩ : ∃ v, v = bs := ⟨bs, rfl⟩
    obtain ⟨R0, hR0⟩ : ∃ v, v = (Value.slice la L.length lc).ownBlock := ⟨_, rfl⟩
    rw [← hR0] at hrel HBL
    rw [← hbs0] at hrel
    rw [← hL0] at hrel
    have hL0b : L0.length ≤ 900 := by rw [hL0]; exact hL
    have hLL : L0.length ≤ L.length := by rw [hL0]; exact Nat.le_refl _
    have HR0 := hidP hR0
    have HL0 := hidP hL0
    have HB0 := hidP hbs0
    obtain ⟨k, n, la, lc, L, bs, D, ca, cc, va, vc, X, U, rfl, rfl, hkl, hG, hVG, hLl, hXk, hUk, hnk', hPS, hRB⟩ := hrel
    have HG := hidP hG
    have HVR := hidP hVG
    have PSR := hidP hPS
    have RBR := hidP hRB
    have hsr := hPS.fr.rest.size
    have hpr : pb < wr.heap.size := lt_of_block' hPS.pn.box
    clear hG hVG hPS hRB PS0 RB0
    clear hR0 hL0 hbs0
    by_cases hk : k < r.pats.length
    · obtain ⟨p, hp⟩ : ∃ p, r.pats[k]? = some p := ⟨r.pats[k], by simp [hk]⟩
      obtain ⟨mb', mo, a_t, c_t, rfl, _, y0, y1, y2, h_t, hct⟩ := HP.out.getC hp
      have AR := HBL.out _ PSR.out.fr
      have x0 := cell_below AR y0
      have x1 := cell_below AR y1
      have x2 := cell_below AR y2
      have HTM := hidP h_t
      have hpm := List.mem_of_getElem? hp
      have HDR := hidP (drop_cons hp)
      have hpt := HT6.out p hpm
      have HPL := hidP (HLE.out p hpm)
      have HPV := hidP (HVO.out p hpm)
      have v0 : (0 : Int) ≤ (k : Int) := by omega
      have v1 : (k : Int) < (r.pats.length : Int) := by omega
      have HOF := hidP (fun w' (h : PS kl w R0 bs0 (L0.map Prod.fst) base gb mb pb la lc L bs D ca cc va vc X U w') => of_any kl K p a_t c_t base gb mb la lc L bs D w' h.ns (HTM.out.below (HBL.out _ h.fr)) (Nat.le_trans HPL.out.1 (by decide)) ⟨Nat.le_trans HPL.out.2.1 (by decide), fun t ht => ⟨Nat.le_trans (HPL.out.2.2 t ht).1 (by decide), Nat.le_trans (HPL.out.2.2 t ht).2 (by decide)⟩⟩ HPL.out.2.1 hct HPV.out (by omega) (Nat.le_trans hbase h.fr.rest.size))
      have HJT := hidP (fun w' la lc L bs D (h : PS kl w R0 bs0 (L0.map Prod.fst) base gb mb pb la lc L bs D ca cc va vc X U w') => joinTests_any pb p a_t c_t va vc U w' h.pn.box.facts.1.2 (VrsAt.owns h.pn.vars) (HTM.out.below (HBL.out _ h.fr)) hct (by omega) (by omega))
      clear y0 y1 y2 h_t hp AR hpm HPL HPV
      go_upto_region 6 with fail
      refine lift_alloc ?_
      intro w5 hW5 hq5
      obtain ⟨tb, htb⟩ : ∃ b, b = wr.heap.size := ⟨_, rfl⟩
      rw [← htb] at hq5 ⊢
      obtain ⟨d0, d1, d2⟩ := cells3P hq5
      have PSd := hidP ((PSR.out.bel hW5).bel (Below.refl _ _).drew)
      have BXd := hidP (show w5.drew.heap[tb]? = some (.cells #[.bool p.neg, .string p.cls, .slice a_t p.terms.length c_t] 141 (0, 0)) from hq5)
      have RBd := hidP (show PlB w5.drew rb (.slice none 0 0) (.slice none 0 0) from (show PlB w5 rb (.slice none 0 0) (.slice none 0 0) from RBR.out.bel hW5))
      have hs5 := hW5.size
      have hptb : pb < tb := by omega
      have HCO := hidP (fun g (hg : (Value.slice ca X.length cc).ownBlock = some g) => (PSd.out.pn.conds.lt g hg).2)
      replace HCO := hidP (show ∀ g, (Value.slice ca X.length cc).ownBlock = some g → g < w5.heap.size from HCO.out)
      clear hW5 hq5 htb x0 x1 x2 PSR RBR
      go_wp2_with fail
      refine wp_region_noPanic ?_
      refine wp_region_held_drew (S := (fun w' => w'.cell? ⟨tb, 0, none⟩ = some (.bool p.neg) ∧ w'.cell? ⟨tb, 1, none⟩ = some (.string p.cls) ∧ w'.cell? ⟨tb, 2, none⟩ = some (.slice a_t p.terms.length c_t))) (by kernel_rfl) ?_ (fun hHeld => ?_)
      · (try dsimp only)
        exact ⟨d0, d1, d2⟩
      refine tk 0 hHeld ?_
      (try simp only [pA, pZ, pS])
      refine tk 1 hHeld ?_
      (try simp only [pA, pZ, pS])
      refine tk 2 hHeld ?_
      (try simp only [pA, pZ, pS])
      refine tk 3 hHeld ?_
      (try simp only [pA, pZ, pS])
      refine tk 4 hHeld ?_
      (try simp only [pA, pZ, pS])
      refine tk 6 hHeld ?_
      (try simp only [pA, pZ, pS])
      refine wpAnyH_ready (rs := [5, 9]) (by kernel_rfl) (by simp) ?_
      refine AllReadyH.cons (o := ?o1) ?ho1 (fun K hK => ?step1) (AllReadyH.cons (o := ?o2) ?ho2 (fun K hK => ?step2) AllReadyH.nil)
      case ho1 => (simp only [List.getElem?_toArray, List.getElem?_cons_succ, List.getElem?_cons_zero]; rfl)
      case ho2 => (simp only [List.getElem?_toArray, List.getElem?_cons_succ, List.getElem?_cons_zero]; rfl)
      case step1 =>
        go_simp
        (go_at_call 111; refine (HOF.out _ PSd.out).mono ?_; rintro e' w6 ⟨la3, lc3, L3, bs3, D3, nk, rfl, hns, hL3, hnk, hfo, hex, hrw⟩)
        (try go_wp2_with fail)
        refine hK.out _ _ ?hS3 (fun hHeld => ?_)
        case hS3 => ((try dsimp only); exact cells3P (hfo.box BXd.out PSd.out.ns (by decide) (by decide)))
        clear hK K
        (first | simp only [pA, pZ, pS] | simp only [pN] | skip)
        have PSo := hidP (PSd.out.of hns (alphaOf_len p) hL3 hfo hex hrw)
        have BXo := hidP (hfo.box BXd.out PSd.out.ns (by decide) (by decide))
        have RBo := hidP (show PlB w6 rb (.slice none 0 0) (.slice none 0 0) from hfo.box RBd.out PSd.out.ns (by decide) (by decide))
        have HND := hidP (show ∃ i : Nat, (L3.map Prod.fst)[i]? = some (alphaOf p) ∧ bs3[i]? = some nk from ⟨_, by rw [hL3]; exact addA_at _ _, hnk⟩)
        have hL3b : L3.length ≤ L.length + 1 := by
          have h1 := congrArg List.length hL3
          have h2 := addA_len (L.map Prod.fst) (alphaOf p)
          simp at h1 h2
          omega
        have hso : w5.heap.size ≤ w6.heap.size := hfo.rest.size
        clear hns hL3 hnk hfo hex hrw
        obtain ⟨x0, x1, x2⟩ := cells3P BXo.out
        refine wpAnyH_ready (rs := [7, 9]) (by kernel_rfl) (by simp) ?_
        refine AllReadyH.cons (o := ?o4) ?ho4 (fun K hK => ?step4) (AllReadyH.cons (o := ?o5) ?ho5 (fun K hK => ?step5) AllReadyH.nil)
        case ho4 => (simp only [List.getElem?_toArray, List.getElem?_cons_succ, List.getElem?_cons_zero]; rfl)
        case ho5 => (simp only [List.getElem?_toArray, List.getElem?_cons_succ, List.getElem?_cons_zero]; rfl)
        case step4 =>
          go_simp
          (go_at_call 112; refine (HJT.out _ _ _ _ _ _ PSo.out).mono ?_; rintro e'' w7 ⟨⟨ta, tc, rfl, hto⟩, hbj⟩)
          (try go_wp2_with fail)
          refine hK.out _ _ ?hS6 (fun hHeld => ?_)
          case hS6 => ((try dsimp only); exact ⟨cell_below hbj x0, cell_below hbj x1, cell_below hbj x2⟩)
          clear hK K
          (first | simp only [pA, pZ, pS] | simp only [pN] | skip)
          have PSm := hidP (PSo.out.bel hbj)
          have BXm := hidP ((hbj.block _ (lt_of_block' BXo.out)).trans BXo.out)
          have RBm := hidP (RBo.out.bel hbj)
          have TOm := hidP (owns_base hto (show w.heap.size ≤ w6.heap.size by omega))
          have hsj := hbj.size
          clear hto hbj x0 x1 x2 PSo BXo RBo
          refine tk 8 hHeld ?_
          (try simp only [pA, pZ, pS])
          have HWm := hidP (fun o' => (Below.refl _ _).alloc (Nat.le_refl _) o' : ∀ o', Below w7.heap.size w7 (w7.alloc o'))
          obtain ⟨m0, m1, m2⟩ := cells3P BXm.out
          refine wpAnyH_ready (rs := [9]) (by kernel_rfl) (by simp) ?_
          refine AllReadyH.cons (List.getElem?_toArray.trans rfl) (fun K hK => ?_) AllReadyH.nil
          go_simp
          refine hK.out _ _ ?hS8 (fun hHeld => ?_)
          case hS8 => ((try dsimp only); exact ⟨cell_below (HWm.out _) m0, cell_below (HWm.out _) m1, cell_below (HWm.out _) m2⟩)
          clear hK K
          (first | simp only [pA, pZ, pS] | simp only [pN] | skip)
          refine wpAnyH_ready (rs := [10]) (by kernel_rfl) (by simp) ?_
          refine AllReadyH.cons (List.getElem?_toArray.trans rfl) (fun K hK => ?_) AllReadyH.nil
          go_simp
          refine hK.out _ _ ?hS10 (fun hHeld => ?_)
          case hS10 => ((try dsimp only); exact ⟨cell_below (HWm.out _) m0, cell_below (HWm.out _) m1, cell_below (HWm.out _) m2⟩)
          clear hK K
          (first | simp only [pA, pZ, pS] | simp only [pN] | skip)
          refine wpAnyH_done (by kernel_rfl) ?_ _
          refine NoPanic.normal ?_
          go_upto_region 7 with fail
          refine lift_alloc ?_
          intro w8 hW8 hq8
          obtain ⟨c0, c1, c2, c3⟩ := cells4P hq8
          have PS8 := hidP (PSm.out.bel hW8)
          have BX8 := hidP ((hW8.block _ (lt_of_block' BXm.out)).trans BXm.out)
          have RB8 := hidP (RBm.out.bel hW8)
          have TO8 := hidP (own_bel TOm.out hW8)
          have hs8 := hW8.size
          clear hW8 hq8 m0 m1 m2 HWm
          have htb8 : tb < w8.heap.size := lt_of_block' BX8.out
          clear d0 d1 d2 HOF HJT hHeld
          obtain ⟨⟨q0, q1⟩, _, hpl⟩ := PS8.out.pn.box.facts
          have HW := hidP (fun o => (Below.refl _ _).alloc (Nat.le_refl _) o : ∀ o, Below w8.heap.size w8 (w8.alloc o))
          have q0' : ∀ o, (w8.alloc o).cell? ⟨pb, 0, none⟩ = some (.slice ca X.length cc) := fun o => cell_below (HW.out o) q0
          have TY := hidP (fun o g hg => own_type (own_bel PS8.out.pn.conds (HW.out o)) (k := g) hg)
          have PBA := hidP (fun o => PS8.out.pn.box.bel (HW.out o))
          have RBA := hidP (fun o => RB8.out.bel (HW.out o))
          have BXA := hidP (fun o => ((HW.out o).block _ (lt_of_block' BX8.out)).trans BX8.out)
          have hBw8 : w.heap.size ≤ w8.heap.size := by omega
          go_upto_region 8 with (first | (at_builtin; refine wpList_append_any (by rfl) (.tmp 27) (.tmp 29) 85 (by rfl) w.heap.size 175 _ 4 48 Tryz.underlying85 infoCx (by rfl) (by omega) _ X.length _ (by rfl) (own_bel PS8.out.pn.conds (HW.out _)) (some ⟨_, 0, none⟩) 1 1 (by rfl) (cxCells ⟨⟨p.neg, n, alphaOf p, jtsUpTo U p.terms p.terms.length⟩, nk, ta, tc⟩) (by rfl) (fun e => by cases e) (news_new _ _ _ _ (by first | rfl | simp)) (cx_one _) (by unfold maxLen; omega) (by omega) (Nat.le_trans hBw8 (HW.out _).size) ?_; intro a9 c9 w9 ho9 hg9 hl9; have P9 := hidP (show PlB w9 pb (.slice ca X.length cc) (.slice va U.length vc) from box_grown (PBA.out _) hg9.out (TY.out _) (by decide)); have R9 := hidP (show PlB w9 rb (.slice none 0 0) (.slice none 0 0) from box_grown (RBA.out _) hg9.out (TY.out _) (by decide)); have B9 := hidP (box_grown (BXA.out _) hg9.out (TY.out _) (by decide)); obtain ⟨⟨l0, l1⟩, z, _⟩ := P9.out.facts; have z0' := z 0; clear z) | fail)
          refine lift_pl0 P9.out ?_
          intro w10 hP10 ht10
          obtain ⟨cx, hcx⟩ : ∃ c : Cx, c = ⟨⟨p.neg, n, alphaOf p, jtsUpTo U p.terms p.terms.length⟩, nk, ta, tc⟩ := ⟨_, rfl⟩
          have PS10 := hidP (PS8.out.push (c := ⟨⟨p.neg, n, alphaOf p, jtsUpTo U p.terms p.terms.length⟩, nk, ta, tc⟩) TO8.out HND.out hpbw ho9.out hg9.out hP10 ht10)
          rw [← hcx] at PS10
          have HCX := hidP hcx
          clear hcx
          have RB10 := hidP (show PlB w10 rb (.slice none 0 0) (.slice none 0 0) from (ht10.block rb (by omega)).trans R9.out)
          have BX10 := hidP ((ht10.block tb (by omega)).trans B9.out)
          obtain ⟨e0, e1, e2⟩ := cells3P BX10.out
          clear hP10 ht10 c0 c1 c2 c3 q0 q1 q0' l0 l1 z0' HW TY PBA RBA BXA P9 R9 B9 PS8 BX8 RB8 TO8 ho9 hg9 hl9
          rcases (show p.neg = false ∨ p.neg = true by cases p.neg <;> simp) with hneg | hneg
          · have HPG := hidP (show planGo r.pats [] 0 = (X ++ [cx]).map Cx.cp ++ planGo (r.pats.drop (k + 1)) (bindUpTo U p.terms n p.terms.length) (n + 1) by rw [HG.out, HDR.out, planGo_cons, if_neg (by rw [hneg]; simp), HCX.out]; simp)
            have HVG := hidP (show varsGo r.pats [] 0 = varsGo (r.pats.drop (k + 1)) (bindUpTo U p.terms n p.terms.length) (n + 1) by rw [HVR.out, HDR.out, varsGo_cons, if_neg (by rw [hneg]; simp)])
            have HBI := hidP (planBind_any pb n p a_t c_t va vc U (.slice a9 (X ++ [cx]).length c9) w.heap.size wA w10 (HBL.out _ PS10.out.fr) HTM.out PS10.out.pn.box PS10.out.pn.vars (by omega) (by omega) PS10.out.fr.rest.size (by omega) (by omega))
            rw [hneg] at HBI e0
            clear hneg HG HVR HDR
            go_wp2_with fail
            refine HBI.out.mono ?_
            rintro e w11 ⟨rfl, ⟨va', vc', hP11, hO11, _⟩, hF11, hA11⟩
            have PS11 := hidP (PS10.out.bindP hpbw hP11 hO11 hF11)
            have RB11 := hidP (show PlB w11 rb (.slice none 0 0) (.slice none 0 0) from (hF11.block rb (lt_of_block' RB10.out) (by omega) (fun e => by obtain ⟨c', hc'⟩ := own_type PS10.out.pn.vars e; exact own_far hc' RB10.out (by decide))).trans RB10.out)
            have hU11 := bindUpTo_len U p.terms n p.terms.length
            clear hP11 hO11 hF11 hA11 HBI PS10 RB10 BX10 e0 e1 e2
            go_wp2_with fail
            have PSX := PS11.out
            rw [HR0.out, HB0.out, HL0.out] at PSX
            have PSX' := hidP PSX
            clear PSX
            go_roundw
            case rel => exact ⟨k + 1, n + 1, la3, lc3, L3, bs3, D3, a9, c9, va', vc', _, _, by go_num, by go_num, by omega, HPG.out, HVG.out, by omega, by simp; omega, by omega, by omega, PSX'.out, RB11.out⟩
            case measure => (simp [intOf]; omega)
          · have HPG := hidP (show planGo r.pats [] 0 = (X ++ [cx]).map Cx.cp ++ planGo (r.pats.drop (k + 1)) U n by rw [HG.out, HDR.out, planGo_cons, if_pos hneg, HCX.out]; simp)
            have HVG := hidP (show varsGo r.pats [] 0 = varsGo (r.pats.drop (k + 1)) U n by rw [HVR.out, HDR.out, varsGo_cons, if_pos hneg])
            rw [hneg] at e0
            clear hneg HG HVR HDR
            go_wp2_with fail
            have PSX := PS10.out
            rw [HR0.out, HB0.out, HL0.out] at PSX
            have PSX' := hidP PSX
            clear PSX
            go_roundw
            case rel => exact ⟨k + 1, n, la3, lc3, L3, bs3, D3, a9, c9, va, vc, _, U, by go_num, rfl, by omega, HPG.out, HVG.out, by omega, by simp; omega, by omega, by omega, PSX'.out, RB10.out⟩
            case measure => (simp [intOf]; omega)
        case step5 =>
          have HWo := hidP (fun o' => (Below.refl _ _).alloc (Nat.le_refl _) o' : ∀ o', Below w6.heap.size w6 (w6.alloc o'))
          go_simp
          refine hK.out _ _ ?hS11 (fun hHeld => ?_)
          case hS11 => ((try dsimp only); exact ⟨cell_below (HWo.out _) x0, cell_below (HWo.out _) x1, cell_below (HWo.out _) x2⟩)
          clear hK K
          (first | simp only [pA, pZ, pS] | simp only [pN] | skip)
          refine wpAnyH_ready (rs := [7]) (by kernel_rfl) (by simp) ?_
          refine AllReadyH.cons (List.getElem?_toArray.trans rfl) (fun K hK => ?_) AllReadyH.nil
          go_simp
          (go_at_call 112; refine (HJT.out _ _ _ _ _ _ (PSo.out.bel (HWo.out _))).mono ?_; rintro e'' w7 ⟨⟨ta, tc, rfl, hto⟩, hbj⟩)
          (try go_wp2_with fail)
          refine hK.out _ _ ?hS13 (fun hHeld => ?_)
          case hS13 => ((try dsimp only); exact ⟨cell_below hbj (cell_below (HWo.out _) x0), cell_below hbj (cell_below (HWo.out _) x1), cell_below hbj (cell_below (HWo.out _) x2)⟩)
          clear hK K
          (first | simp only [pA, pZ, pS] | simp only [pN] | skip)
          have hbj' := (HWo.out _).trans (hbj.mono (HWo.out _).size)
          have PSm := hidP (PSo.out.bel hbj')
          have BXm := hidP ((hbj'.block _ (lt_of_block' BXo.out)).trans BXo.out)
          have RBm := hidP (RBo.out.bel hbj')
          have hsj := hbj.size
          simp at hsj
          have TOm := hidP (owns_base hto (show w.heap.size ≤ _ by simp; omega))
          have ZBm := hidP (show w7.heap[w6.heap.size]? = some (.cells #[.bool false, .int .i64 0, .pointer none, .slice none 0 0] 175 (0, 0)) from (hbj.block w6.heap.size (by simp)).trans (heap_alloc_new _ _))
          clear hto hbj hbj' x0 x1 x2 PSo BXo RBo HWo
          refine tk 8 hHeld ?_
          (try simp only [pA, pZ, pS])
          obtain ⟨m0, m1, m2⟩ := cells3P BXm.out
          obtain ⟨o0, o1, o2, o3⟩ := cells4P ZBm.out
          have s0 : w7.frozen? ⟨w6.heap.size, 0, none⟩ = false := by simp [World.frozen?, ZBm.out]
          have s1 : w7.frozen? ⟨w6.heap.size, 1, none⟩ = false := by simp [World.frozen?, ZBm.out]
          have s2 : w7.frozen? ⟨w6.heap.size, 2, none⟩ = false := by simp [World.frozen?, ZBm.out]
          have s3 : w7.frozen? ⟨w6.heap.size, 3, none⟩ = false := by simp [World.frozen?, ZBm.out]
          have HLF := hidP (fun wt (ht : Turned w7 wt w6.heap.size) => cells3P (box_turned BXm.out ZBm.out ht (by decide)))
          refine wpAnyH_ready (rs := [10]) (by kernel_rfl) (by simp) ?_
          refine AllReadyH.cons (List.getElem?_toArray.trans rfl) (fun K hK => ?_) AllReadyH.nil
          go_simp
          refine hK.out _ _ ?hS15 (fun hHeld => ?_)
          case hS15 => ((try dsimp only); exact HLF.out _ (Turned.setCells [_, _, _, _] 0 w7 _))
          clear hK K
          (first | simp only [pA, pZ, pS] | simp only [pN] | skip)
          refine wpAnyH_done (by kernel_rfl) ?_ _
          refine NoPanic.normal ?_
          go_upto_region 7 with fail
          refine lift_s4P ZBm.out ?_
          intro w8 hq8 hT8
          obtain ⟨c0, c1, c2, c3⟩ := cells4P hq8
          have PS8 := hidP (PSm.out.fill ZBm.out hT8 (fun g hg => by have := HCO.out g hg; omega) (by omega))
          have BX8 := hidP (box_turned BXm.out ZBm.out hT8 (by decide))
          have RB8 := hidP (show PlB w8 rb (.slice none 0 0) (.slice none 0 0) from box_turned RBm.out ZBm.out hT8 (by decide))
          have TO8 := hidP (own_turnedP TOm.out ZBm.out hT8 (by decide))
          have hs8 : w7.heap.size ≤ w8.heap.size := Nat.le_of_eq hT8.size.symm
          clear hT8 hq8 m0 m1 m2 o0 o1 o2 o3 s0 s1 s2 s3 HLF ZBm
          have htb8 : tb < w8.heap.size := lt_of_block' BX8.out
          clear d0 d1 d2 HOF HJT hHeld
          obtain ⟨⟨q0, q1⟩, _, hpl⟩ := PS8.out.pn.box.facts
          have HW := hidP (fun o => (Below.refl _ _).alloc (Nat.le_refl _) o : ∀ o, Below w8.heap.size w8 (w8.alloc o))
          have q0' : ∀ o, (w8.alloc o).cell? ⟨pb, 0, none⟩ = some (.slice ca X.length cc) := fun o => cell_below (HW.out o) q0
          have TY := hidP (fun o g hg => own_type (own_bel PS8.out.pn.conds (HW.out o)) (k := g) hg)
          have PBA := hidP (fun o => PS8.out.pn.box.bel (HW.out o))
          have RBA := hidP (fun o => RB8.out.bel (HW.out o))
          have BXA := hidP (fun o => ((HW.out o).block _ (lt_of_block' BX8.out)).trans BX8.out)
          have hBw8 : w.heap.size ≤ w8.heap.size := by omega
          go_upto_region 8 with (first | (at_builtin; refine wpList_append_any (by rfl) (.tmp 27) (.tmp 29) 85 (by rfl) w.heap.size 175 _ 4 48 Tryz.underlying85 infoCx (by rfl) (by omega) _ X.length _ (by rfl) (own_bel PS8.out.pn.conds (HW.out _)) (some ⟨_, 0, none⟩) 1 1 (by rfl) (cxCells ⟨⟨p.neg, n, alphaOf p, jtsUpTo U p.terms p.terms.length⟩, nk, ta, tc⟩) (by rfl) (fun e => by cases e) (news_new _ _ _ _ (by first | rfl | simp)) (cx_one _) (by unfold maxLen; omega) (by omega) (Nat.le_trans hBw8 (HW.out _).size) ?_; intro a9 c9 w9 ho9 hg9 hl9; have P9 := hidP (show PlB w9 pb (.slice ca X.length cc) (.slice va U.length vc) from box_grown (PBA.out _) hg9.out (TY.out _) (by decide)); have R9 := hidP (show PlB w9 rb (.slice none 0 0) (.slice none 0 0) from box_grown (RBA.out _) hg9.out (TY.out _) (by decide)); have B9 := hidP (box_grown (BXA.out _) hg9.out (TY.out _) (by decide)); obtain ⟨⟨l0, l1⟩, z, _⟩ := P9.out.facts; have z0' := z 0; clear z) | fail)
          refine lift_pl0 P9.out ?_
          intro w10 hP10 ht10
          obtain ⟨cx, hcx⟩ : ∃ c : Cx, c = ⟨⟨p.neg, n, alphaOf p, jtsUpTo U p.terms p.terms.length⟩, nk, ta, tc⟩ := ⟨_, rfl⟩
          have PS10 := hidP (PS8.out.push (c := ⟨⟨p.neg, n, alphaOf p, jtsUpTo U p.terms p.terms.length⟩, nk, ta, tc⟩) TO8.out HND.out hpbw ho9.out hg9.out hP10 ht10)
          rw [← hcx] at PS10
          have HCX := hidP hcx
          clear hcx
          have RB10 := hidP (show PlB w10 rb (.slice none 0 0) (.slice none 0 0) from (ht10.block rb (by omega)).trans R9.out)
          have BX10 := hidP ((ht10.block tb (by omega)).trans B9.out)
          obtain ⟨e0, e1, e2⟩ := cells3P BX10.out
          clear hP10 ht10 c0 c1 c2 c3 q0 q1 q0' l0 l1 z0' HW TY PBA RBA BXA P9 R9 B9 PS8 BX8 RB8 TO8 ho9 hg9 hl9
          rcases (show p.neg = false ∨ p.neg = true by cases p.neg <;> simp) with hneg | hneg
          · have HPG := hidP (show planGo r.pats [] 0 = (X ++ [cx]).map Cx.cp ++ planGo (r.pats.drop (k + 1)) (bindUpTo U p.terms n p.terms.length) (n + 1) by rw [HG.out, HDR.out, planGo_cons, if_neg (by rw [hneg]; simp), HCX.out]; simp)
            have HVG := hidP (show varsGo r.pats [] 0 = varsGo (r.pats.drop (k + 1)) (bindUpTo U p.terms n p.terms.length) (n + 1) by rw [HVR.out, HDR.out, varsGo_cons, if_neg (by rw [hneg]; simp)])
            have HBI := hidP (planBind_any pb n p a_t c_t va vc U (.slice a9 (X ++ [cx]).length c9) w.heap.size wA w10 (HBL.out _ PS10.out.fr) HTM.out PS10.out.pn.box PS10.out.pn.vars (by omega) (by omega) PS10.out.fr.rest.size (by omega) (by omega))
            rw [hneg] at HBI e0
            clear hneg HG HVR HDR
            go_wp2_with fail
            refine HBI.out.mono ?_
            rintro e w11 ⟨rfl, ⟨va', vc', hP11, hO11, _⟩, hF11, hA11⟩
            have PS11 := hidP (PS10.out.bindP hpbw hP11 hO11 hF11)
            have RB11 := hidP (show PlB w11 rb (.slice none 0 0) (.slice none 0 0) from (hF11.block rb (lt_of_block' RB10.out) (by omega) (fun e => by obtain ⟨c', hc'⟩ := own_type PS10.out.pn.vars e; exact own_far hc' RB10.out (by decide))).trans RB10.out)
            have hU11 := bindUpTo_len U p.terms n p.terms.length
            clear hP11 hO11 hF11 hA11 HBI PS10 RB10 BX10 e0 e1 e2
            go_wp2_with fail
            have PSX := PS11.out
            rw [HR0.out, HB0.out, HL0.out] at PSX
            have PSX' := hidP PSX
            clear PSX
            go_roundw
            case rel => exact ⟨k + 1, n + 1, la3, lc3, L3, bs3, D3, a9, c9, va', vc', _, _, by go_num, by go_num, by omega, HPG.out, HVG.out, by omega, by simp; omega, by omega, by omega, PSX'.out, RB11.out⟩
            case measure => (simp [intOf]; omega)
          · have HPG := hidP (show planGo r.pats [] 0 = (X ++ [cx]).map Cx.cp ++ planGo (r.pats.drop (k + 1)) U n by rw [HG.out, HDR.out, planGo_cons, if_pos hneg, HCX.out]; simp)
            have HVG := hidP (show varsGo r.pats [] 0 = varsGo (r.pats.drop (k + 1)) U n by rw [HVR.out, HDR.out, varsGo_cons, if_pos hneg])
            rw [hneg] at e0
            clear hneg HG HVR HDR
            go_wp2_with fail
            have PSX := PS10.out
            rw [HR0.out, HB0.out, HL0.out] at PSX
            have PSX' := hidP PSX
            clear PSX
            go_roundw
            case rel => exact ⟨k + 1, n, la3, lc3, L3, bs3, D3, a9, c9, va, vc, _, U, by go_num, rfl, by omega, HPG.out, HVG.out, by omega, by simp; omega, by omega, by omega, PSX'.out, RB10.out⟩
            case measure => (simp [intOf]; omega)
      case step2 =>
        have HWd := hidP (fun o' => (Below.refl _ _).alloc (Nat.le_refl _) o' : ∀ o', Below w5.drew.heap.size w5.drew (w5.drew.alloc o'))
        have HWe := hidP (fun o' => (Below.refl _ _).drew.alloc (by simp) o' : ∀ o', Below w5.heap.size w5 (w5.drew.alloc o'))
        go_simp
        refine hK.out _ _ ?hS16 (fun hHeld => ?_)
        case hS16 => ((try dsimp only); exact ⟨cell_below (HWe.out _) d0, cell_below (HWe.out _) d1, cell_below (HWe.out _) d2⟩)
        clear hK K
        (first | simp only [pA, pZ, pS] | simp only [pN] | skip)
        have PSa := hidP (fun o' => PSd.out.bel (HWd.out o'))
        have BXa := hidP (fun o' => ((HWd.out o').block _ (lt_of_block' BXd.out)).trans BXd.out)
        have RBa := hidP (fun o' => RBd.out.bel (HWd.out o'))
        refine wpAnyH_ready (rs := [5]) (by kernel_rfl) (by simp) ?_
        refine AllReadyH.cons (List.getElem?_toArray.trans rfl) (fun K hK => ?_) AllReadyH.nil
        go_simp
        (go_at_call 111; refine (HOF.out _ (PSa.out _)).mono ?_; rintro e' w6 ⟨la3, lc3, L3, bs3, D3, nk, rfl, hns, hL3, hnk, hfo, hex, hrw⟩)
        (try go_wp2_with fail)
        refine hK.out _ _ ?hS18 (fun hHeld => ?_)
        case hS18 => ((try dsimp only); exact cells3P (hfo.box (BXa.out _) (PSa.out _).ns (by decide) (by decide)))
        clear hK K
        (first | simp only [pA, pZ, pS] | simp only [pN] | skip)
        have PSo := hidP ((PSa.out _).of hns (alphaOf_len p) hL3 hfo hex hrw)
        have BXo := hidP (hfo.box (BXa.out _) (PSa.out _).ns (by decide) (by decide))
        have RBo := hidP (show PlB w6 rb (.slice none 0 0) (.slice none 0 0) from hfo.box (RBa.out _) (PSa.out _).ns (by decide) (by decide))
        have ZBo := hidP (show w6.heap[w5.heap.size]? = some (.cells #[.bool false, .int .i64 0, .pointer none, .slice none 0 0] 175 (0, 0)) from hfo.box (heap_alloc_new w5.drew _) (PSa.out _).ns (by decide) (by decide))
        have HND := hidP (show ∃ i : Nat, (L3.map Prod.fst)[i]? = some (alphaOf p) ∧ bs3[i]? = some nk from ⟨_, by rw [hL3]; exact addA_at _ _, hnk⟩)
        have hL3b : L3.length ≤ L.length + 1 := by
          have h1 := congrArg List.length hL3
          have h2 := addA_len (L.map Prod.fst) (alphaOf p)
          simp at h1 h2
          omega
        have hso : w5.heap.size < w6.heap.size := lt_of_block' ZBo.out
        clear hns hL3 hnk hfo hex hrw PSa BXa RBa HWd HWe
        obtain ⟨x0, x1, x2⟩ := cells3P BXo.out
        refine wpAnyH_ready (rs := [7]) (by kernel_rfl) (by simp) ?_
        refine AllReadyH.cons (List.getElem?_toArray.trans rfl) (fun K hK => ?_) AllReadyH.nil
        go_simp
        (go_at_call 112; refine (HJT.out _ _ _ _ _ _ PSo.out).mono ?_; rintro e'' w7 ⟨⟨ta, tc, rfl, hto⟩, hbj⟩)
        (try go_wp2_with fail)
        refine hK.out _ _ ?hS20 (fun hHeld => ?_)
        case hS20 => ((try dsimp only); exact ⟨cell_below hbj x0, cell_below hbj x1, cell_below hbj x2⟩)
        clear hK K
        (first | simp only [pA, pZ, pS] | simp only [pN] | skip)
        have PSm := hidP (PSo.out.bel hbj)
        have BXm := hidP ((hbj.block _ (lt_of_block' BXo.out)).trans BXo.out)
        have RBm := hidP (RBo.out.bel hbj)
        have ZBm := hidP ((hbj.block _ (lt_of_block' ZBo.out)).trans ZBo.out)
        have TOm := hidP (owns_base hto (show w.heap.size ≤ w6.heap.size by omega))
        have hsj := hbj.size
        clear hto hbj x0 x1 x2 PSo BXo RBo ZBo
        refine tk 8 hHeld ?_
        (try simp only [pA, pZ, pS])
        obtain ⟨m0, m1, m2⟩ := cells3P BXm.out
        obtain ⟨o0, o1, o2, o3⟩ := cells4P ZBm.out
        have s0 : w7.frozen? ⟨w5.heap.size, 0, none⟩ = false := by simp [World.frozen?, ZBm.out]
        have s1 : w7.frozen? ⟨w5.heap.size, 1, none⟩ = false := by simp [World.frozen?, ZBm.out]
        have s2 : w7.frozen? ⟨w5.heap.size, 2, none⟩ = false := by simp [World.frozen?, ZBm.out]
        have s3 : w7.frozen? ⟨w5.heap.size, 3, none⟩ = false := by simp [World.frozen?, ZBm.out]
        have HLF := hidP (fun wt (ht : Turned w7 wt w5.heap.size) => cells3P (box_turned BXm.out ZBm.out ht (by decide)))
        refine wpAnyH_ready (rs := [10]) (by kernel_rfl) (by simp) ?_
        refine AllReadyH.cons (List.getElem?_toArray.trans rfl) (fun K hK => ?_) AllReadyH.nil
        go_simp
        refine hK.out _ _ ?hS22 (fun hHeld => ?_)
        case hS22 => ((try dsimp only); exact HLF.out _ (Turned.setCells [_, _, _, _] 0 w7 _))
        clear hK K
        (first | simp only [pA, pZ, pS] | simp only [pN] | skip)
        refine wpAnyH_done (by kernel_rfl) ?_ _
        refine NoPanic.normal ?_
        go_upto_region 7 with fail
        refine lift_s4P ZBm.out ?_
        intro w8 hq8 hT8
        obtain ⟨c0, c1, c2, c3⟩ := cells4P hq8
        have PS8 := hidP (PSm.out.fill ZBm.out hT8 (fun g hg => by have := HCO.out g hg; omega) (by omega))
        have BX8 := hidP (box_turned BXm.out ZBm.out hT8 (by decide))
        have RB8 := hidP (show PlB w8 rb (.slice none 0 0) (.slice none 0 0) from box_turned RBm.out ZBm.out hT8 (by decide))
        have TO8 := hidP (own_turnedP TOm.out ZBm.out hT8 (by decide))
        have hs8 : w7.heap.size ≤ w8.heap.size := Nat.le_of_eq hT8.size.symm
        clear hT8 hq8 m0 m1 m2 o0 o1 o2 o3 s0 s1 s2 s3 HLF ZBm
        have htb8 : tb < w8.heap.size := lt_of_block' BX8.out
        clear d0 d1 d2 HOF HJT hHeld
        obtain ⟨⟨q0, q1⟩, _, hpl⟩ := PS8.out.pn.box.facts
        have HW := hidP (fun o => (Below.refl _ _).alloc (Nat.le_refl _) o : ∀ o, Below w8.heap.size w8 (w8.alloc o))
        have q0' : ∀ o, (w8.alloc o).cell? ⟨pb, 0, none⟩ = some (.slice ca X.length cc) := fun o => cell_below (HW.out o) q0
        have TY := hidP (fun o g hg => own_type (own_bel PS8.out.pn.conds (HW.out o)) (k := g) hg)
        have PBA := hidP (fun o => PS8.out.pn.box.bel (HW.out o))
        have RBA := hidP (fun o => RB8.out.bel (HW.out o))
        have BXA := hidP (fun o => ((HW.out o).block _ (lt_of_block' BX8.out)).trans BX8.out)
        have hBw8 : w.heap.size ≤ w8.heap.size := by omega
        go_upto_region 8 with (first | (at_builtin; refine wpList_append_any (by rfl) (.tmp 27) (.tmp 29) 85 (by rfl) w.heap.size 175 _ 4 48 Tryz.underlying85 infoCx (by rfl) (by omega) _ X.length _ (by rfl) (own_bel PS8.out.pn.conds (HW.out _)) (some ⟨_, 0, none⟩) 1 1 (by rfl) (cxCells ⟨⟨p.neg, n, alphaOf p, jtsUpTo U p.terms p.terms.length⟩, nk, ta, tc⟩) (by rfl) (fun e => by cases e) (news_new _ _ _ _ (by first | rfl | simp)) (cx_one _) (by unfold maxLen; omega) (by omega) (Nat.le_trans hBw8 (HW.out _).size) ?_; intro a9 c9 w9 ho9 hg9 hl9; have P9 := hidP (show PlB w9 pb (.slice ca X.length cc) (.slice va U.length vc) from box_grown (PBA.out _) hg9.out (TY.out _) (by decide)); have R9 := hidP (show PlB w9 rb (.slice none 0 0) (.slice none 0 0) from box_grown (RBA.out _) hg9.out (TY.out _) (by decide)); have B9 := hidP (box_grown (BXA.out _) hg9.out (TY.out _) (by decide)); obtain ⟨⟨l0, l1⟩, z, _⟩ := P9.out.facts; have z0' := z 0; clear z) | fail)
        refine lift_pl0 P9.out ?_
        intro w10 hP10 ht10
        obtain ⟨cx, hcx⟩ : ∃ c : Cx, c = ⟨⟨p.neg, n, alphaOf p, jtsUpTo U p.terms p.terms.length⟩, nk, ta, tc⟩ := ⟨_, rfl⟩
        have PS10 := hidP (PS8.out.push (c := ⟨⟨p.neg, n, alphaOf p, jtsUpTo U p.terms p.terms.length⟩, nk, ta, tc⟩) TO8.out HND.out hpbw ho9.out hg9.out hP10 ht10)
        rw [← hcx] at PS10
        have HCX := hidP hcx
        clear hcx
        have RB10 := hidP (show PlB w10 rb (.slice none 0 0) (.slice none 0 0) from (ht10.block rb (by omega)).trans R9.out)
        have BX10 := hidP ((ht10.block tb (by omega)).trans B9.out)
        obtain ⟨e0, e1, e2⟩ := cells3P BX10.out
        clear hP10 ht10 c0 c1 c2 c3 q0 q1 q0' l0 l1 z0' HW TY PBA RBA BXA P9 R9 B9 PS8 BX8 RB8 TO8 ho9 hg9 hl9
        rcases (show p.neg = false ∨ p.neg = true by cases p.neg <;> simp) with hneg | hneg
        · have HPG := hidP (show planGo r.pats [] 0 = (X ++ [cx]).map Cx.cp ++ planGo (r.pats.drop (k + 1)) (bindUpTo U p.terms n p.terms.length) (n + 1) by rw [HG.out, HDR.out, planGo_cons, if_neg (by rw [hneg]; simp), HCX.out]; simp)
          have HVG := hidP (show varsGo r.pats [] 0 = varsGo (r.pats.drop (k + 1)) (bindUpTo U p.terms n p.terms.length) (n + 1) by rw [HVR.out, HDR.out, varsGo_cons, if_neg (by rw [hneg]; simp)])
          have HBI := hidP (planBind_any pb n p a_t c_t va vc U (.slice a9 (X ++ [cx]).length c9) w.heap.size wA w10 (HBL.out _ PS10.out.fr) HTM.out PS10.out.pn.box PS10.out.pn.vars (by omega) (by omega) PS10.out.fr.rest.size (by omega) (by omega))
          rw [hneg] at HBI e0
          clear hneg HG HVR HDR
          go_wp2_with fail
          refine HBI.out.mono ?_
          rintro e w11 ⟨rfl, ⟨va', vc', hP11, hO11, _⟩, hF11, hA11⟩
          have PS11 := hidP (PS10.out.bindP hpbw hP11 hO11 hF11)
          have RB11 := hidP (show PlB w11 rb (.slice none 0 0) (.slice none 0 0) from (hF11.block rb (lt_of_block' RB10.out) (by omega) (fun e => by obtain ⟨c', hc'⟩ := own_type PS10.out.pn.vars e; exact own_far hc' RB10.out (by decide))).trans RB10.out)
          have hU11 := bindUpTo_len U p.terms n p.terms.length
          clear hP11 hO11 hF11 hA11 HBI PS10 RB10 BX10 e0 e1 e2
          go_wp2_with fail
          have PSX := PS11.out
          rw [HR0.out, HB0.out, HL0.out] at PSX
          have PSX' := hidP PSX
          clear PSX
          go_roundw
          case rel => exact ⟨k + 1, n + 1, la3, lc3, L3, bs3, D3, a9, c9, va', vc', _, _, by go_num, by go_num, by omega, HPG.out, HVG.out, by omega, by simp; omega, by omega, by omega, PSX'.out, RB11.out⟩
          case measure => (simp [intOf]; omega)
        · have HPG := hidP (show planGo r.pats [] 0 = (X ++ [cx]).map Cx.cp ++ planGo (r.pats.drop (k + 1)) U n by rw [HG.out, HDR.out, planGo_cons, if_pos hneg, HCX.out]; simp)
          have HVG := hidP (show varsGo r.pats [] 0 = varsGo (r.pats.drop (k + 1)) U n by rw [HVR.out, HDR.out, varsGo_cons, if_pos hneg])
          rw [hneg] at e0
          clear hneg HG HVR HDR
          go_wp2_with fail
          have PSX := PS10.out
          rw [HR0.out, HB0.out, HL0.out] at PSX
          have PSX' := hidP PSX
          clear PSX
          go_roundw
          case rel => exact ⟨k + 1, n, la3, lc3, L3, bs3, D3, a9, c9, va, vc, _, U, by go_num, rfl, by omega, HPG.out, HVG.out, by omega, by simp; omega, by omega, by omega, PSX'.out, RB10.out⟩
          case measure => (simp [intOf]; omega)
    · have hke : k = r.pats.length := by omega
      subst hke
      have hy : ¬ (r.pats.length : Int) < (r.pats.length : Int) := by omega
      obtain ⟨⟨q0, q1⟩, _, _⟩ := PSR.out.pn.box.facts
      obtain ⟨⟨r0, r1⟩, rz, hrl⟩ := RBR.out.facts
      have rz0 := rz 0
      have rz1 := rz 1
      have hXE : planGo r.pats [] 0 = X.map Cx.cp := by rw [HG.out, List.drop_length]; simp [planGo]
      have hUE : varsGo r.pats [] 0 = U := by rw [HVR.out, List.drop_length]; rfl
      have HXE := hidP hXE
      have HUE := hidP hUE
      have hrp' : rb ≠ pb := by omega
      clear hXE hUE rz
      go_wp2_with fail
      refine bodyPost_ret (v := .agg #[.slice ca X.length cc, .slice va U.length vc]) (by simp [results, Tryz.results89, go_sem, r0, r1]) rfl ?_
      have ht : Turned wr ((wr.setCell ⟨rb, 0, none⟩ (.slice ca X.length cc)).setCell ⟨rb, 1, none⟩ (.slice va U.length vc)) rb := Turned.setCells [_, _] 0 wr rb
      refine ⟨la, lc, L, bs, D, ca, cc, va, vc, X, by rw [HUE.out], HXE.out.symm, PSR.out.ns.turnedC RBR.out ht (by unfold NTy; decide), ?_, ?_, ?_, ?_, ?_, ?_, PSR.out.six⟩
      · rw [HUE.out]
        exact PSR.out.pn.pd.keptB fun k c t fr hk ht' => (ht.block k (fun e => by subst e; exact own_far RBR.out hk (by rcases ht' with rfl | rfl | rfl <;> decide))).trans hk
      · rw [← HR0.out]
        exact PSR.out.fr.then_below (ht.below hrw0)
      · rw [← HR0.out]
        exact PSR.out.rw'
      · rw [← HB0.out]
        exact PSR.out.ext
      · rw [← HL0.out]
        exact PSR.out.exa
      · rw [← HL0.out]
        exact hLl
end Go.Proofs.YtognpkdgphebeaaGreat
