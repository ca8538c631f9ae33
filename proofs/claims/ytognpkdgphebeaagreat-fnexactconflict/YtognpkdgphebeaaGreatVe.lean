/-
  OUR OWN TEXT. Nd3, Nd6, one behind the other.
-/
import Derived.Test.YtognpkdgphebeaaGreatUm
import Derived.Test.YtognpkdgphebeaaGreatUb
import Derived.Test.YtognpkdgphebeaaGreatUn
import Derived.Test.YtognpkdgphebeaaGreatUh
namespace Go.Proofs.YtognpkdgphebeaaGreat
open Go.RowKit Go.Maps
attribute [local go_sem ↓] Go.wp_at_zero Go.wp_at_succ

/-- A node in its box; its facts lie behind v. -/
def NodeF (w : World) (b : Nat) (x : AlX) (i : Nat) (v : Value) : Prop := w.heap[b]? = some (.cells #[.string x.1.cls, .int .i64 x.1.arity, x.2, .int .i64 (i : Int), v] 207 (0, 0))
theorem NodeF.facts {w : World} {b : Nat} {x : AlX} {i : Nat} {v : Value} (h : NodeF w b x i v) : (w.cell? ⟨b, 0, none⟩ = some (.string x.1.cls) ∧ w.cell? ⟨b, 1, none⟩ = some (.int .i64 x.1.arity) ∧ w.cell? ⟨b, 2, none⟩ = some x.2 ∧ w.cell? ⟨b, 4, none⟩ = some v) ∧ w.frozen? ⟨b, 4, none⟩ = false ∧ b < w.heap.size := by
  unfold NodeF at h
  refine ⟨⟨?_, ?_, ?_, ?_⟩, ?_, lt_of_block' h⟩ <;> simp [World.cell?, World.frozen?, h]
theorem NodeF.set4 {w : World} {b : Nat} {x : AlX} {i : Nat} {v : Value} (h : NodeF w b x i v) (y : Value) : NodeF (w.setCell ⟨b, 4, none⟩ y) b x i y := by
  have := heap_setCell_same (i := 4) h y
  simpa [NodeF] using this
theorem lift_nodeF {P : World → Prop} {w : World} {b : Nat} {x : AlX} {i : Nat} {v y : Value} (h0 : NodeF w b x i v) (h : ∀ wt, NodeF wt b x i y → Turned w wt b → P wt) : P (w.setCell ⟨b, 4, none⟩ y) := h _ (h0.set4 y) (Turned.setCells [y] 4 w b)
theorem NodeF.num {w : World} {b : Nat} {x y : AlX} {i j : Nat} {u v : Value} (h : NodeF w b x i u) (k : NodeF w b y j v) : i = j := by
  unfold NodeF at h k
  rw [h] at k
  simp at k
  omega
/-- The facts among these that pass an Alpha, with their pointers. -/
def sel (x : Al) (Q : List (Value × F)) : List (Value × F) := Q.filter (fun y => passes x y.2)
theorem sel_snoc_yes {x : Al} {Q : List (Value × F)} {p : Value} {f : F} (h : passes x f = true) : sel x (Q ++ [(p, f)]) = sel x Q ++ [(p, f)] := by
  unfold sel
  rw [List.filter_append]
  simp [h]
theorem sel_snoc_no {x : Al} {Q : List (Value × F)} {p : Value} {f : F} (h : passes x f = false) : sel x (Q ++ [(p, f)]) = sel x Q := by
  unfold sel
  rw [List.filter_append]
  simp [h]
/-- What the coming of facts may write: nodes' boxes, rows of pointers to facts. -/
structure FrT (base : Nat) (w w' : World) : Prop where
  rest : Below base w w'
  kept : ∀ (k : Nat) (c : Array Value) (t : TypeId) (fr : Nat × Nat), w.heap[k]? = some (.cells c t fr) → t ≠ 207 → t ≠ 89 → w'.heap[k]? = some (.cells c t fr)
theorem FrT.refl (base : Nat) (w : World) : FrT base w w := ⟨Below.refl _ _, fun _ _ _ _ h _ _ => h⟩
theorem FrT.trans {base : Nat} {u v w : World} (h : FrT base u v) (k : FrT base v w) : FrT base u w := ⟨h.rest.trans k.rest, fun j c t fr hj h1 h2 => k.kept j c t fr (h.kept j c t fr hj h1 h2) h1 h2⟩
theorem FrT.of_below {base : Nat} {w w' : World} (h : Below w.heap.size w w') (hb : base ≤ w.heap.size) : FrT base w w' := ⟨h.mono hb, fun k _ _ _ hk _ _ => (h.block k (lt_of_block' hk)).trans hk⟩
theorem FrT.own {base B : Nat} {w w' : World} {e : TypeId} {m : Nat} {v : Value} {n : Nat} {xs : List Value} (h : FrT base w w') (ho : w.ownsRow B e m v n xs) (h1 : e ≠ 207) (h2 : e ≠ 89) : w'.ownsRow B e m v n xs :=
  owns_of_block ho fun k hk => by
    obtain ⟨c, hc⟩ := own_type ho hk
    rw [h.kept k _ _ _ hc h1 h2, hc]
/-- The nodes with their facts. -/
structure NF (w : World) (base gb mb : Nat) (la : Option Addr) (lc : Nat) (L : List AlX) (bs : List Nat) (V : List Value) (QQ : Nat → List (Value × F)) : Prop where
  box : GB w gb mb (.slice la L.length lc)
  row : w.ownsRow base 172 1 (.slice la L.length lc) L.length (ptrs bs)
  lenb : bs.length = L.length
  lenv : V.length = L.length
  node : ∀ (i : Nat) (x : AlX) (b : Nat) (v : Value), L[i]? = some x → bs[i]? = some b → V[i]? = some v → NodeF w b x i v ∧ base ≤ b ∧ (∃ fa fc, v = .slice fa (sel x.1 (QQ i)).length fc) ∧ w.ownsRow base 89 1 v (sel x.1 (QQ i)).length ((sel x.1 (QQ i)).map Prod.fst)
  als : ∀ x ∈ L, AlP w base x
  apart : ∀ (i j : Nat) (u v : Value), V[i]? = some u → V[j]? = some v → i ≠ j → Apart u v
theorem NF.bel {w w' : World} {base gb mb : Nat} {la : Option Addr} {lc : Nat} {L : List AlX} {bs : List Nat} {V : List Value} {QQ : Nat → List (Value × F)} (h : NF w base gb mb la lc L bs V QQ) (hb : Below w.heap.size w w') : NF w' base gb mb la lc L bs V QQ :=
  ⟨(hb.block gb (lt_of_block' h.box)).trans h.box, own_bel h.row hb, h.lenb, h.lenv, fun i x b v hx hb' hv => by
    obtain ⟨h1, h2, h3, h4⟩ := h.node i x b v hx hb' hv
    exact ⟨(hb.block b (lt_of_block' h1)).trans h1, h2, h3, own_bel h4 hb⟩, fun x hx => (h.als x hx).bel hb, h.apart⟩
theorem NF.same {w : World} {base gb mb : Nat} {la : Option Addr} {lc : Nat} {L : List AlX} {bs : List Nat} {V : List Value} {QQ QQ' : Nat → List (Value × F)} (h : NF w base gb mb la lc L bs V QQ) (he : ∀ i x, L[i]? = some x → sel x.1 (QQ i) = sel x.1 (QQ' i)) : NF w base gb mb la lc L bs V QQ' :=
  ⟨h.box, h.row, h.lenb, h.lenv, fun i x b v hx hb' hv => by
    rw [← he i x hx]
    exact h.node i x b v hx hb' hv, h.als, h.apart⟩
theorem NF.ofNS {kl : Al → Lit} {w : World} {base gb mb : Nat} {la : Option Addr} {lc : Nat} {L : List AlX} {bs : List Nat} {D : DataW Unit} (h : NS kl w base gb mb la lc L bs D) : NF w base gb mb la lc L bs (List.replicate L.length (.slice none 0 0)) (fun _ => []) := by
  refine ⟨h.box, h.row, by have := h.inv.len; simpa using this, by simp, fun i x b v hx hb hv => ?_, h.als, fun i j u v hu hv _ g hg => ?_⟩
  · have e := List.eq_of_mem_replicate (List.mem_of_getElem? hv)
    subst e
    exact ⟨(h.node i x b hx hb).1, (h.node i x b hx hb).2, ⟨none, 0, rfl⟩, World.ownsRow_nil _ _ _ _⟩
  · have e := List.eq_of_mem_replicate (List.mem_of_getElem? hu)
    subst e
    cases hg
/-- One fact more at one node. -/
theorem NF.push {w w7 w8 : World} {base gb mb : Nat} {la : Option Addr} {lc : Nat} {L : List AlX} {bs : List Nat} {V : List Value} {QQ : Nat → List (Value × F)} {m b : Nat} {x : AlX} {v p : Value} {f : F} {o : Obj} {fa : Option Addr} {fc : Nat}
    (h : NF w base gb mb la lc L bs V QQ) (hx : L[m]? = some x) (hb : bs[m]? = some b) (hv : V[m]? = some v) (hp : passes x.1 f = true) (hbase : base ≤ w.heap.size)
    (ho7 : w7.ownsRow base 89 1 (.slice fa ((sel x.1 (QQ m)).length + 1) fc) ((sel x.1 (QQ m)).length + 1) ((sel x.1 (QQ m)).map Prod.fst ++ [p])) (hg7 : (w.alloc o).grownBy w7 v.ownBlock)
    (hl7 : (Value.slice fa ((sel x.1 (QQ m)).length + 1) fc).ownBlock = v.ownBlock ∨ (Value.slice fa ((sel x.1 (QQ m)).length + 1) fc).ownBlock = some (w.alloc o).heap.size)
    (hN8 : NodeF w8 b x m (.slice fa ((sel x.1 (QQ m)).length + 1) fc)) (ht8 : Turned w7 w8 b) :
    NF w8 base gb mb la lc L bs (V.set m (.slice fa ((sel x.1 (QQ m)).length + 1) fc)) (fun i => if i = m then QQ m ++ [(p, f)] else QQ i) ∧ FrT base w w8 := by
  obtain ⟨n1, n2, n3, n4⟩ := h.node m x b v hx hb hv
  have hml : m < V.length := (List.getElem?_eq_some_iff.1 hv).1
  have hs7 := hg7.size
  simp at hs7
  have stay : ∀ k, k < w.heap.size → k ≠ b → v.ownBlock ≠ some k → w8.heap[k]? = w.heap[k]? := fun k hk h1 h2 => by
    rw [ht8.block k h1, hg7.block k (by simp; omega) (fun e => h2 e.symm), Below.heap_alloc _ _ _ hk]
  have stayC : ∀ (k : Nat) (c : Array Value) (t : TypeId) (fr : Nat × Nat), w.heap[k]? = some (.cells c t fr) → t ≠ 207 → t ≠ 89 → w8.heap[k]? = some (.cells c t fr) := fun k c t fr hk h1 h2 => by
    refine (stay k (lt_of_block' hk) (fun e => ?_) (fun e => ?_)).trans hk
    · subst e
      exact own_far hk n1 h1
    · obtain ⟨c', hc'⟩ := own_type n4 e
      exact own_far hk hc' h2
  have stayO : ∀ {e : TypeId} {m : Nat} {v : Value} {n : Nat} {xs : List Value}, w.ownsRow base e m v n xs → e ≠ 207 → e ≠ 89 → w8.ownsRow base e m v n xs := fun ho h1 h2 => owns_of_block ho fun k hk => by
    obtain ⟨c, hc⟩ := own_type ho hk
    rw [stayC k _ _ _ hc h1 h2, hc]
  have hb8 : b < w.heap.size := n1.facts.2.2
  have hold : ∀ (i : Nat) (u : Value), V[i]? = some u → i ≠ m → ∃ (x' : AlX) (b' : Nat), L[i]? = some x' ∧ bs[i]? = some b' := fun i u hu _ => by
    have hi : i < V.length := (List.getElem?_eq_some_iff.1 hu).1
    have e1 := h.lenv
    have e2 := h.lenb
    exact ⟨L[i]'(by omega), bs[i]'(by omega), by simp, by simp⟩
  have hnew : ∀ (i : Nat) (u : Value), V[i]? = some u → i ≠ m → ∀ g, u.ownBlock = some g → (Value.slice fa ((sel x.1 (QQ m)).length + 1) fc).ownBlock ≠ some g := fun i u hu hi g hg hg' => by
    obtain ⟨x', b', hx', hb'⟩ := hold i u hu hi
    have hlt := ((h.node i x' b' u hx' hb' hu).2.2.2.lt g hg).2
    rcases hl7 with hl | hl
    · rw [hl] at hg'
      exact h.apart i m u v hu hv hi g hg hg'
    · rw [hl] at hg'
      injection hg' with hg'
      simp at hg'
      omega
  refine ⟨⟨stayC gb _ _ _ h.box (by decide) (by decide), stayO h.row (by decide) (by decide), h.lenb, by simp [h.lenv], fun i x' b' u hx' hb' hu => ?_, fun y hy => ⟨(h.als y hy).1, stayO (h.als y hy).2 (by decide) (by decide)⟩, fun i j u u' hu hu' hij => ?_⟩, ⟨?_, stayC⟩⟩
  · by_cases hi : i = m
    · subst hi
      rw [hx] at hx'
      rw [hb] at hb'
      cases hx'
      cases hb'
      rw [List.getElem?_set_self hml] at hu
      cases hu
      refine ⟨hN8, n2, ⟨fa, fc, ?_⟩, ?_⟩
      · simp [sel_snoc_yes hp]
      · have ho8 : w8.ownsRow base 89 1 (.slice fa ((sel x.1 (QQ i)).length + 1) fc) ((sel x.1 (QQ i)).length + 1) ((sel x.1 (QQ i)).map Prod.fst ++ [p]) := owns_of_block ho7 fun k hk => ht8.block k (fun e => by
          obtain ⟨c, hc⟩ := own_type ho7 hk
          subst e
          have hG7 : w7.heap[k]? = w.heap[k]? := by
            rw [hg7.block k (by simp; omega) (fun e => by obtain ⟨c', hc'⟩ := own_type n4 e.symm; exact own_far n1 hc' (by decide)), Below.heap_alloc _ _ _ hb8]
          rw [hG7] at hc
          exact own_far n1 hc (by decide))
        simpa [sel_snoc_yes hp] using ho8
    · rw [List.getElem?_set_ne (fun e => hi e.symm)] at hu
      obtain ⟨k1, k2, k3, k4⟩ := h.node i x' b' u hx' hb' hu
      simp only [if_neg hi]
      refine ⟨(stay b' (lt_of_block' k1) (fun e => ?_) (fun e => ?_)).trans k1, k2, k3, ?_⟩
      · subst e
        exact hi (k1.num n1)
      · obtain ⟨c', hc'⟩ := own_type n4 e
        exact own_far k1 hc' (by decide)
      · refine owns_of_block k4 fun k hk => stay k (k4.lt k hk).2 (fun e => ?_) (fun e => h.apart i m u v hu hv hi k hk e)
        subst e
        obtain ⟨c', hc'⟩ := own_type k4 hk
        exact own_far n1 hc' (by decide)
  · by_cases hi : i = m
    · subst hi
      rw [List.getElem?_set_self hml] at hu
      rw [List.getElem?_set_ne hij] at hu'
      cases hu
      intro g hg hg'
      exact hnew j u' hu' (fun e => hij e.symm) g hg' hg
    · rw [List.getElem?_set_ne (fun e => hi e.symm)] at hu
      by_cases hj : j = m
      · subst hj
        rw [List.getElem?_set_self hml] at hu'
        cases hu'
        exact fun g hg => hnew i u hu hi g hg
      · rw [List.getElem?_set_ne (fun e => hj e.symm)] at hu'
        exact h.apart i j u u' hu hu' hij
  · refine (((Below.refl base w).alloc hbase _).grown hg7 (by simp; omega) (fun k hk => (n4.lt k hk).1)).trans (ht8.below n2)
theorem infoFp : (Tryz.prog.info? 89).map (fun i => (i.zero, i.size, i.bytes)) = some (some (.pointer none), 1, 8) := by kernel_rfl
theorem fac_one {w : World} {p : Value} {f : F} (h : FacAt w p f) : p.oneCell' = true := by
  obtain ⟨b, o, rfl, _⟩ := h
  rfl
/-- A node's Alpha, as the node's question wants it. -/
theorem NodeF.nd {w : World} {b base : Nat} {x : AlX} {i : Nat} {v : Value} (h : NodeF w b x i v) (ha : AlP w base x) : ∃ a c, NdAt w b x.1 a c := by
  obtain ⟨⟨a, c, e⟩, ho⟩ := ha
  obtain ⟨⟨h0, h1, h2, _⟩, _⟩ := h.facts
  rw [e] at h2 ho
  exact ⟨a, c, h0, h1, h2, TtsAt.owns ho⟩
set_option maxRecDepth 100000 in
set_option maxHeartbeats 6400000 in
theorem nodesAdd_any (base gb mb : Nat) (la : Option Addr) (lc : Nat) (L : List AlX) (bs : List Nat) (V : List Value) (Q : List (Value × F)) (pf : Value) (f : F) (wA w : World) (hA : Below wA.heap.size wA w) (hAB : wA.heap.size ≤ base) (hF : FacAt wA pf f) (hN : NF w base gb mb la lc L bs V (fun _ => Q)) (hB : base ≤ w.heap.size) (hL : L.length ≤ 1000) (hQ : Q.length ≤ 1000) (h6 : ∀ x ∈ L, x.1.tests.length ≤ 1048576) :
    Calls Tryz.prog 90 #[.pointer (some ⟨gb, 0, none⟩), pf] w fun e w' => e = .returned (.tuple #[]) ∧ (∃ V', NF w' base gb mb la lc L bs V' (fun _ => Q ++ [(pf, f)])) ∧ FrT base w w' := by
  obtain ⟨fb, fo, hpf⟩ : ∃ fb fo, pf = .pointer (some ⟨fb, fo, none⟩) := by
    obtain ⟨fb, fo, h, _⟩ := hF
    exact ⟨fb, fo, h⟩
  subst hpf
  have HA := hidP hA
  have HF := hidP hF
  have HN := hidP hN
  have H6 := hidP h6
  have hFA := hidP (fac_one hF)
  obtain ⟨⟨g0, g1⟩, _, hgl⟩ := hN.box.facts
  clear hA hF hN h6
  go_enter Tryz.func90, Tryz.ntmps90
  go_wp2_with fail
  clear g0 g1
  go_loopw [11] (fun iv wr => ∃ (k : Nat) (V' : List Value), iv = .int .i64 (k : Int) ∧ k ≤ L.length ∧ NF wr base gb mb la lc L bs V' (fun i => if i < k then Q ++ [(.pointer (some ⟨fb, fo, none⟩), f)] else Q) ∧ FrT base w wr) (fun iv _ => L.length - (intOf iv).toNat)
  case atStart => exact ⟨0, V, rfl, Nat.zero_le _, HN.out.same (fun i x _ => by simp), FrT.refl _ _⟩
  case round =>
    obtain ⟨k, V', rfl, hkl, hNr, hFr⟩ := hrel
    have NR := hidP hNr
    have FR := hidP hFr
    have hsr := hFr.rest.size
    have AR := hidP (HA.out.trans (hFr.rest.mono hAB))
    clear hNr hFr HN
    by_cases hk : k < L.length
    · obtain ⟨x, hx⟩ : ∃ x, L[k]? = some x := ⟨L[k], by simp [hk]⟩
      obtain ⟨nb, hnb⟩ : ∃ b, bs[k]? = some b := ⟨bs[k]'(by rw [NR.out.lenb]; exact hk), by simp⟩
      obtain ⟨v, hv⟩ : ∃ v, V'[k]? = some v := ⟨V'[k]'(by rw [NR.out.lenv]; exact hk), by simp⟩
      obtain ⟨rb, rfl, _, r0, _⟩ := owns_cell NR.out.row (show (ptrs bs)[k]? = some (.pointer (some ⟨nb, 0, none⟩)) by simp [ptrs, hnb])
      obtain ⟨n1, n2, ⟨fa, fc, rfl⟩, n4⟩ := NR.out.node k x nb v hx hnb hv
      simp only [Nat.lt_irrefl, if_false] at hv n1 n4
      obtain ⟨na, nc, hnd⟩ := n1.nd (NR.out.als x (List.mem_of_getElem? hx))
      have HP := hidP (nodePasses_any nb x.1 na nc (.pointer (some ⟨fb, fo, none⟩)) f wr hnd (HF.out.below AR.out) (H6.out x (List.mem_of_getElem? hx)))
      have hsl : (sel x.1 Q).length ≤ 1000 := Nat.le_trans (List.length_filter_le _ _) hQ
      have z0 : (0 : Int) ≤ (k : Int) := by omega
      have z1 : (k : Int) < (L.length : Int) := by omega
      have HX := hidP hx
      have HNB := hidP hnb
      have HVV := hidP hv
      clear hx hnb hv n1 n4 hnd
      cases hm : passes x.1 f
      · have HM := hidP hm
        rw [hm] at HP
        clear hm
        go_wp2_with fail
        refine HP.out.mono ?_
        rintro e w3 ⟨rfl, hb3⟩
        have N3 := hidP (NR.out.bel hb3)
        have F3 := hidP (FR.out.trans (FrT.of_below hb3 (by omega)))
        clear hb3 HP r0
        go_wp2_with fail
        go_roundw
        case rel =>
          refine ⟨k + 1, V', by go_num, by omega, N3.out.same (fun i y hy => ?_), F3.out⟩
          by_cases h1 : i < k
          · simp [h1, show i < k + 1 by omega]
          · by_cases h2 : i = k
            · subst h2
              rw [HX.out] at hy
              cases hy
              simp [sel_snoc_no HM.out]
            · simp [h1, show ¬ i < k + 1 by omega]
        case measure => (simp [intOf]; omega)
      · have HM := hidP hm
        rw [hm] at HP
        clear hm
        go_wp2_with fail
        refine HP.out.mono ?_
        rintro e w3 ⟨rfl, hb3⟩
        have N3 := hidP (NR.out.bel hb3)
        have F3 := hidP (FR.out.trans (FrT.of_below hb3 (by omega)))
        have hs3 := hb3.size
        clear hb3 HP r0
        obtain ⟨n1, _, _, n4⟩ := N3.out.node k x nb _ HX.out HNB.out HVV.out
        simp only [Nat.lt_irrefl, if_false] at n4
        have N1 := hidP n1
        have N4 := hidP n4
        obtain ⟨⟨_, _, _, y4⟩, _, hbl⟩ := n1.facts
        have HW := hidP (fun o => (Below.refl _ _).alloc (Nat.le_refl _) o : ∀ o, Below w3.heap.size w3 (w3.alloc o))
        have y4' : ∀ o, (w3.alloc o).cell? ⟨nb, 4, none⟩ = some (.slice fa (sel x.1 Q).length fc) := fun o => cell_below (HW.out o) y4
        have HNF := hidP (fun o => (show NodeF (w3.alloc o) nb x k (.slice fa (sel x.1 Q).length fc) from ((HW.out o).block nb hbl).trans N1.out))
        have TY := hidP (fun o g hg => own_type (own_bel N4.out (HW.out o)) (k := g) hg)
        have hB3 : base ≤ w3.heap.size := by omega
        clear n1 n4
        go_upto_region 5 with (first | (at_builtin; refine wpList_append_any (by rfl) (.tmp 22) (.tmp 24) 177 (by rfl) base 89 _ 1 8 Tryz.underlying177 infoFp (by rfl) (by omega) _ (sel x.1 Q).length _ (by rfl) (own_bel N4.out (HW.out _)) (some ⟨_, 0, none⟩) 1 1 (by rfl) [.pointer (some ⟨fb, fo, none⟩)] (by rfl) (fun e => by cases e) (news_new _ _ _ _ (by first | rfl | simp)) (by intro u hu; rw [List.mem_singleton] at hu; rw [hu]; exact hFA.out) (by unfold maxLen; omega) (by omega) (Nat.le_trans hB3 (HW.out _).size) ?_; intro a7 c7 w7 ho7 hg7 hl7; have N7 := hidP (show NodeF w7 nb x k (.slice fa (sel x.1 Q).length fc) from box_grown (HNF.out _) hg7.out (TY.out _) (by decide)); obtain ⟨_, z4, _⟩ := N7.out.facts) | fail)
        refine lift_nodeF N7.out ?_
        intro w8 hN8 ht8
        have hR := NF.push (QQ := fun i => if i < k then Q ++ [(.pointer (some ⟨fb, fo, none⟩), f)] else Q) (p := .pointer (some ⟨fb, fo, none⟩)) (f := f) (fa := a7) (fc := c7) N3.out HX.out HNB.out HVV.out HM.out hB3 (by simpa using ho7.out) hg7.out (by simpa using hl7.out) (by simpa using hN8) ht8
        have HR := hidP hR
        clear hR hN8 ht8
        go_wp2_with fail
        go_roundw
        case rel =>
          refine ⟨k + 1, _, by go_num, by omega, HR.out.1.same (fun i y hy => ?_), F3.out.trans HR.out.2⟩
          by_cases h1 : i < k
          · simp [h1, show i < k + 1 by omega, show i ≠ k by omega]
          · by_cases h2 : i = k
            · subst h2
              simp
            · simp [h1, h2, show ¬ i < k + 1 by omega]
        case measure => (simp [intOf]; omega)
    · have hke : k = L.length := by omega
      subst hke
      have hy : ¬ (L.length : Int) < (L.length : Int) := by omega
      go_wp2_with fail
      go_end0
      refine ⟨rfl, ⟨V', NR.out.same (fun i y hy => ?_)⟩, FR.out⟩
      have hi := (List.getElem?_eq_some_iff.1 hy).1
      simp [hi]
end Go.Proofs.YtognpkdgphebeaaGreat

namespace Go.Proofs.YtognpkdgphebeaaGreat
open Go.RowKit Go.Maps

/-- A plan that was made, with where its rows lie. -/
structure Px where
  ca : Option Addr
  cc : Nat
  va : Option Addr
  vc : Nat
  X : List Cx
  U : List Vr
def pxCells (x : Px) : List Value := [.slice x.ca x.X.length x.cc, .slice x.va x.U.length x.vc]
theorem px_one (x : Px) : ∀ u ∈ pxCells x, u.oneCell' = true := by
  intro u hu
  simp [pxCells] at hu
  rcases hu with rfl | rfl <;> rfl
theorem infoPx : (Tryz.prog.info? 88).map (fun i => (i.zero, i.size, i.bytes)) = some (some (.agg #[.slice none 0 0, .slice none 0 0]), 2, 48) := by kernel_rfl
/-- Plans in a row. -/
structure PLS (w : World) (B : Nat) (a : Option Addr) (c : Nat) (P : List Px) (A : List Al) (bs : List Nat) : Prop where
  row : w.ownsRow B 88 2 (.slice a P.length c) P.length (P.flatMap pxCells)
  each : ∀ x ∈ P, PD w B x.ca x.cc x.va x.vc x.X x.U A bs
theorem PLS.keptB {w w' : World} {B : Nat} {a : Option Addr} {c : Nat} {P : List Px} {A : List Al} {bs : List Nat} (h : PLS w B a c P A bs) (hb : ∀ (k : Nat) (c : Array Value) (t : TypeId) (fr : Nat × Nat), w.heap[k]? = some (.cells c t fr) → (t = 88 ∨ t = 175 ∨ t = 101 ∨ t = 210) → w'.heap[k]? = some (.cells c t fr)) : PLS w' B a c P A bs :=
  ⟨owns_of_block h.row fun k hk => by
    obtain ⟨c', hc'⟩ := own_type h.row hk
    rw [hb k _ _ _ hc' (.inl rfl), hc'], fun x hx => (h.each x hx).keptB fun k c t fr hk ht => hb k c t fr hk (.inr ht)⟩
theorem PLS.bel {w w' : World} {B : Nat} {a : Option Addr} {c : Nat} {P : List Px} {A : List Al} {bs : List Nat} (h : PLS w B a c P A bs) (hb : Below w.heap.size w w') : PLS w' B a c P A bs :=
  h.keptB fun k _ _ _ hk _ => (hb.block k (lt_of_block' hk)).trans hk
theorem PLS.ft {base : Nat} {w w' : World} {B : Nat} {a : Option Addr} {c : Nat} {P : List Px} {A : List Al} {bs : List Nat} (h : PLS w B a c P A bs) (hf : FrT base w w') : PLS w' B a c P A bs :=
  h.keptB fun k c t fr hk ht => hf.kept k c t fr hk (by rcases ht with rfl | rfl | rfl | rfl <;> decide) (by rcases ht with rfl | rfl | rfl | rfl <;> decide)
theorem PD.ext {w : World} {B : Nat} {ca : Option Addr} {cc : Nat} {va : Option Addr} {vc : Nat} {X : List Cx} {U : List Vr} {A A' : List Al} {bs bs' : List Nat} (h : PD w B ca cc va vc X U A bs) (ha : ∀ (i : Nat) (y : Al), A[i]? = some y → A'[i]? = some y) (hb : ∀ (i n : Nat), bs[i]? = some n → bs'[i]? = some n) : PD w B ca cc va vc X U A' bs' :=
  ⟨h.conds, h.vars, h.tests, fun c hc => by
    obtain ⟨i, h1, h2⟩ := h.nodes c hc
    exact ⟨i, ha i _ h1, hb i _ h2⟩⟩
theorem PD.lower {w : World} {B B' : Nat} {ca : Option Addr} {cc : Nat} {va : Option Addr} {vc : Nat} {X : List Cx} {U : List Vr} {A : List Al} {bs : List Nat} (h : PD w B ca cc va vc X U A bs) (hB : B' ≤ B) : PD w B' ca cc va vc X U A bs :=
  ⟨owns_base h.conds hB, owns_base h.vars hB, fun c hc => owns_base (h.tests c hc) hB, h.nodes⟩
/-- One plan more: newPlan was called, and its answer appended. -/
theorem PLS.push {kl : Al → Lit} {w w6 w7 : World} {base gb mb B : Nat} {la : Option Addr} {lc : Nat} {L L' : List AlX} {bs bs' : List Nat} {D : DataW Unit} {a a' : Option Addr} {c c' : Nat} {P : List Px} {x : Px} {o : Obj} (h : PLS w B a c P (L.map Prod.fst) bs) (hN : NS kl w base gb mb la lc L bs D) (hf : Fr3 gb mb (Value.slice la L.length lc).ownBlock w w6) (he : ∀ (i n : Nat), bs[i]? = some n → bs'[i]? = some n) (ha : ∀ (i : Nat) (y : Al), (L.map Prod.fst)[i]? = some y → (L'.map Prod.fst)[i]? = some y)
    (hx : PD w6 B x.ca x.cc x.va x.vc x.X x.U (L'.map Prod.fst) bs') (hg : (w6.alloc o).grownBy w7 (Value.slice a P.length c).ownBlock) (ho : w7.ownsRow B 88 2 (.slice a' (P.length + 1) c') (P.length + 1) (P.flatMap pxCells ++ pxCells x)) : PLS w7 B a' c' (P ++ [x]) (L'.map Prod.fst) bs' := by
  have h6 : PLS w6 B a c P (L.map Prod.fst) bs := h.keptB fun k c t fr hk ht => hf.box hk hN (by rcases ht with rfl | rfl | rfl | rfl <;> decide) (by rcases ht with rfl | rfl | rfl | rfl <;> decide)
  have hA : Below w6.heap.size w6 (w6.alloc o) := (Below.refl _ _).alloc (Nat.le_refl _) _
  have h7 := h6.bel hA
  have TY := fun k hk => own_type h7.row (k := k) hk
  have far : ∀ (k : Nat) (c : Array Value) (t : TypeId) (fr : Nat × Nat), (w6.alloc o).heap[k]? = some (.cells c t fr) → (t = 175 ∨ t = 101 ∨ t = 210) → w7.heap[k]? = some (.cells c t fr) := fun k c t fr hk ht => box_grown hk hg TY (by rcases ht with rfl | rfl | rfl <;> decide)
  refine ⟨by simpa using ho, fun y hy => ?_⟩
  rcases List.mem_append.1 hy with hy | hy
  · exact ((h7.each y hy).ext ha he).keptB far
  · rw [List.mem_singleton.1 hy]
    exact (hx.bel hA).keptB far
/-- Facts with their pointers, as far as k. -/
def qUp (a : Option Addr) (fs : List F) : Nat → List (Value × F)
  | 0 => []
  | k + 1 => qUp a fs k ++ (match fs[k]?, a with | some f, some ad => [(.pointer (some ⟨ad.block, ad.off + k * 3, none⟩), f)] | _, _ => [])
theorem qUp_succ {b o : Nat} {fs : List F} {k : Nat} {f : F} (h : fs[k]? = some f) : qUp (some ⟨b, o, none⟩) fs (k + 1) = qUp (some ⟨b, o, none⟩) fs k ++ [(.pointer (some ⟨b, o + k * 3, none⟩), f)] := by simp [qUp, h]
theorem qUp_len (a : Option Addr) (fs : List F) : ∀ k, (qUp a fs k).length ≤ k
  | 0 => Nat.le_refl _
  | k + 1 => by
    have h := qUp_len a fs k
    simp only [qUp, List.length_append]
    split <;> simp <;> omega
theorem qUp_all {w : World} {a : Option Addr} {fs : List F} (h : FactsAt w a fs) : ∀ k, k ≤ fs.length → (qUp a fs k).map Prod.snd = fs.take k ∧ ∀ y ∈ qUp a fs k, FacAt w y.1 y.2
  | 0, _ => ⟨rfl, fun y hy => by simp [qUp] at hy⟩
  | k + 1, hk => by
    obtain ⟨h1, h2⟩ := qUp_all h k (by omega)
    obtain ⟨f, hf⟩ : ∃ f, fs[k]? = some f := ⟨fs[k], by simp [show k < fs.length by omega]⟩
    obtain ⟨b, o, rfl, c0, c1, a', c, c2, hv⟩ := h k f hf
    rw [qUp_succ hf]
    refine ⟨by rw [List.map_append, h1, List.take_add_one, hf]; rfl, fun y hy => ?_⟩
    rcases List.mem_append.1 hy with hy | hy
    · exact h2 y hy
    · rw [List.mem_singleton.1 hy]
      exact ⟨b, o + k * 3, rfl, c0, c1, a', c, c2, hv⟩
theorem sel_snd {x : Al} : ∀ (Q : List (Value × F)), (sel x Q).map Prod.snd = (Q.map Prod.snd).filter (passes x)
  | [] => rfl
  | y :: r => by
    unfold sel
    have ih := sel_snd (x := x) r
    unfold sel at ih
    by_cases h : passes x y.2 = true
    · rw [List.filter_cons_of_pos (by simpa using h), List.map_cons, List.map_cons, List.filter_cons_of_pos h, ih]
    · rw [List.filter_cons_of_neg (by simpa using h), List.map_cons, List.filter_cons_of_neg h, ih]
theorem JtsAt.owns {w : World} {base : Nat} {a : Option Addr} {c : Nat} {ts : List Jt} (h : w.ownsRow base 210 4 (.slice a ts.length c) ts.length (ts.flatMap jtCells)) : JtsAt w a ts := by
  intro i t hi
  have key := fun j u (hj : (jtCells t)[j]? = some u) => owns_cell h (flat_gen (cells := jtCells) (m := 4) (fun _ => rfl) ts i t j u hi hj)
  obtain ⟨k, rfl, _, h0, _⟩ := key 0 _ rfl
  obtain ⟨k1, e1, _, h1, _⟩ := key 1 _ rfl
  obtain ⟨k2, e2, _, h2, _⟩ := key 2 _ rfl
  obtain ⟨k3, e3, _, h3, _⟩ := key 3 _ rfl
  cases e1
  cases e2
  cases e3
  exact ⟨k, 0, rfl, by simpa using h0, by simpa using h1, by simpa using h2, by simpa using h3⟩
/-- A condition with the facts of its node. -/
def cnOf (fs : List F) (c : Cx) : Cn := ⟨c.cp.neg, c.cp.at_, c.node, c.cp.tests, c.cp.alpha, fs.filter (passes c.cp.alpha)⟩
theorem cnOf_cp (fs : List F) (c : Cx) : CnCp fs (cnOf fs c) c.cp := ⟨rfl, rfl, rfl, rfl, rfl⟩
/-- The conditions in memory, once the facts have come. -/
theorem PD.cns {w : World} {B base gb mb : Nat} {la : Option Addr} {lc : Nat} {L : List AlX} {bs : List Nat} {V : List Value} {Q : List (Value × F)} {fs : List F} {ca : Option Addr} {cc : Nat} {va : Option Addr} {vc : Nat} {X : List Cx} {U : List Vr} (h : PD w B ca cc va vc X U (L.map Prod.fst) bs) (hN : NF w base gb mb la lc L bs V (fun _ => Q)) (hQ : Q.map Prod.snd = fs) (hF : ∀ y ∈ Q, FacAt w y.1 y.2) : CnsAt w ca (X.map (cnOf fs)) := by
  intro i d hi
  rw [List.getElem?_map] at hi
  obtain ⟨c, hc, rfl⟩ := Option.map_eq_some_iff.1 hi
  have key := fun j u (hj : (cxCells c)[j]? = some u) => owns_cell h.conds (flat_gen (cells := cxCells) (m := 4) (fun _ => rfl) X i c j u hc hj)
  obtain ⟨k, rfl, _, h0, _⟩ := key 0 _ rfl
  obtain ⟨k1, e1, _, h1, _⟩ := key 1 _ rfl
  obtain ⟨k2, e2, _, h2, _⟩ := key 2 _ rfl
  obtain ⟨k3, e3, _, h3, _⟩ := key 3 _ rfl
  cases e1
  cases e2
  cases e3
  have hcm := List.mem_of_getElem? hc
  obtain ⟨m, hA, hb⟩ := h.nodes c hcm
  rw [List.getElem?_map] at hA
  obtain ⟨x, hx, hxa⟩ := Option.map_eq_some_iff.1 hA
  have hml : m < L.length := (List.getElem?_eq_some_iff.1 hx).1
  obtain ⟨v, hv⟩ : ∃ v, V[m]? = some v := ⟨V[m]'(by rw [hN.lenv]; exact hml), by simp⟩
  obtain ⟨n1, _, ⟨fa, fc, rfl⟩, n4⟩ := hN.node m x c.node v hx hb hv
  obtain ⟨na, nc, hnd⟩ := n1.nd (hN.als x (List.mem_of_getElem? hx))
  rw [hxa] at hnd n1 n4
  have hsl : (sel c.cp.alpha Q).map Prod.snd = fs.filter (passes c.cp.alpha) := by rw [sel_snd, hQ]
  have hlen : (sel c.cp.alpha Q).length = (fs.filter (passes c.cp.alpha)).length := by rw [← hsl, List.length_map]
  obtain ⟨⟨_, _, _, y4⟩, _⟩ := n1.facts
  refine ⟨k, 0, c.ta, c.tc, rfl, by simpa [cnOf] using h0, by simpa [cnOf] using h1, by simpa [cnOf] using h2, by simpa [cnOf] using h3, ⟨JtsAt.owns (h.tests c hcm), ⟨na, nc, hnd⟩, fa, fc, ?_, ?_⟩⟩
  · show w.cell? ⟨c.node, 4, none⟩ = some (.slice fa (fs.filter (passes c.cp.alpha)).length fc)
    rw [← hlen]
    exact y4
  · intro j f hj
    have hj' : ((sel c.cp.alpha Q).map Prod.snd)[j]? = some f := by rw [hsl]; exact hj
    rw [List.getElem?_map] at hj'
    obtain ⟨y, hy, rfl⟩ := Option.map_eq_some_iff.1 hj'
    obtain ⟨g, rfl, _, hg, _⟩ := owns_cell n4 (show ((sel c.cp.alpha Q).map Prod.fst)[j]? = some y.1 by rw [List.getElem?_map, hy]; rfl)
    exact ⟨g, 0, y.1, rfl, by simpa using hg, hF y (List.mem_filter.1 (List.mem_of_getElem? hy)).1⟩
theorem planGo_small : ∀ (ps : List Pt) (vs : List Vr) (n : Nat), (∀ p ∈ ps, p.terms.length ≤ 6) → ∀ d ∈ planGo ps vs n, d.tests.length ≤ 6 ∧ d.alpha.tests.length ≤ 6
  | [], _, _, _, d, hd => by simp [planGo] at hd
  | p :: ps, vs, n, h, d, hd => by
    rw [planGo_cons] at hd
    have hr : ∀ q ∈ ps, q.terms.length ≤ 6 := fun q hq => h q (by simp [hq])
    rcases List.mem_cons.1 hd with rfl | hd
    · exact ⟨Nat.le_trans (jtsUpTo_len _ _ _) (h p (by simp)), alphaOf_len p⟩
    · split at hd
      · exact planGo_small ps _ _ hr d hd
      · exact planGo_small ps _ _ hr d hd
/-- A plan of a rule, in memory. -/
structure PlnAt (w : World) (fs : List F) (ca : Option Addr) (va : Option Addr) (r : Ru) (cs : List Cn) : Prop where
  conds : CnsAt w ca cs
  vars : VrsAt w va (varsGo r.pats [] 0)
  len : cs.length = (planGo r.pats [] 0).length
  each : ∀ (k : Nat) (c : Cn) (d : Cp), cs[k]? = some c → (planGo r.pats [] 0)[k]? = some d → CnCp fs c d
  small : ∀ c ∈ cs, smallC c
theorem PD.pln {w : World} {B base gb mb : Nat} {la : Option Addr} {lc : Nat} {L : List AlX} {bs : List Nat} {V : List Value} {Q : List (Value × F)} {fs : List F} {ca : Option Addr} {cc : Nat} {va : Option Addr} {vc : Nat} {X : List Cx} {r : Ru} (h : PD w B ca cc va vc X (varsGo r.pats [] 0) (L.map Prod.fst) bs) (hN : NF w base gb mb la lc L bs V (fun _ => Q)) (hQ : Q.map Prod.snd = fs) (hF : ∀ y ∈ Q, FacAt w y.1 y.2) (hX : X.map Cx.cp = planGo r.pats [] 0) (ht : ∀ p ∈ r.pats, p.terms.length ≤ 6) (hf : fs.length ≤ 40) : PlnAt w fs ca va r (X.map (cnOf fs)) := by
  refine ⟨h.cns hN hQ hF, VrsAt.owns h.vars, by rw [← hX]; simp, fun k c d hc hd => ?_, fun c hc => ?_⟩
  · rw [← hX, List.getElem?_map] at hd
    rw [List.getElem?_map] at hc
    obtain ⟨x, hx, rfl⟩ := Option.map_eq_some_iff.1 hc
    rw [hx] at hd
    cases hd
    exact cnOf_cp fs x
  · obtain ⟨x, hx, rfl⟩ := List.mem_map.1 hc
    obtain ⟨h1, h2⟩ := planGo_small r.pats [] 0 ht x.cp (by rw [← hX]; exact List.mem_map.2 ⟨x, hx, rfl⟩)
    exact ⟨Nat.le_trans h1 (by decide), Nat.le_trans (List.length_filter_le _ _) (by omega), Nat.le_trans h2 (by decide)⟩
end Go.Proofs.YtognpkdgphebeaaGreat
