/-
  OUR OWN TEXT. An6, An7, Nd2, one behind the other.
-/
import Derived.Test.YtognpkdgphebeaaGreatUl
import Derived.Test.YtognpkdgphebeaaGreatAo4m
import Derived.Deep.DeepCutAuto
import Derived.Test.YtognpkdgphebeaaGreatOd
import Derived.Deep.RegionHeld3
namespace Go.Proofs.YtognpkdgphebeaaGreat
open Go.RowKit Go.Maps

theorem wf_rangeN {n : Int} (h1 : -9223372036854775808 ≤ n) (h2 : n ≤ 9223372036854775807) : (Lit.int .i64 n).wf = true := by
  simp [Lit.wf, IntKind.min, IntKind.max, IntKind.signed, IntKind.bits]
  omega
theorem firstVar_lt {name : ByteArray} : ∀ {l : List Tm} {s k : Nat}, firstVar name l s = some k → k < s + l.length
  | [], _, _, h => by simp [firstVar] at h
  | t :: r, s, k, h => by
    rw [firstVar_cons] at h
    split at h
    · injection h with h
      subst h
      simp
    · have := firstVar_lt h
      simp
      omega
theorem tests_from {ts : List Tm} : ∀ {k : Nat} {u : Tt}, u ∈ testsUpTo ts k → ∃ i t, i < k ∧ ts[i]? = some t ∧ testOf ts i t = some u
  | 0, u, h => by simp [testsUpTo] at h
  | k + 1, u, h => by
    unfold testsUpTo at h
    rcases List.mem_append.1 h with h | h
    · obtain ⟨i, t, h1, h2, h3⟩ := tests_from h
      exact ⟨i, t, by omega, h2, h3⟩
    · cases ht : ts[k]? with
      | none => rw [ht] at h; simp at h
      | some t =>
        rw [ht] at h
        simp at h
        exact ⟨k, t, by omega, ht, h⟩
/-- Alphas of patterns can be keys. -/
theorem alphaOf_ok {p : Pt} (hc : p.cls.size ≤ maxLen) (hv : ∀ t ∈ p.terms, VOk t.val) : AOk (alphaOf p) := by
  unfold alphaOf
  split
  · rename_i hg
    have h6 := gPt_six hg
    refine ⟨hc, wf_rangeN (n := (p.terms.length : Int)) (by omega) (by omega), Nat.le_trans (tests_len _ _) h6, fun u hu => ?_⟩
    obtain ⟨i, t, hi, ht, hu⟩ := tests_from hu
    have hgt := gPt_mem hg ht
    have hvt := hv t (List.mem_of_getElem? ht)
    have hop : 1 ≤ tmOp t ∧ tmOp t ≤ 6 := by
      unfold tmOp
      split
      · rename_i hk
        have hk3 : t.kind = 3 := by simpa using hk
        simp [gTm, hk3] at hgt
        omega
      · omega
    have hopw : (Lit.int .i64 (tmOp t)).wf = true := wf_rangeN (by omega) (by omega)
    have hiw : (Lit.int .i64 (i : Int)).wf = true := wf_rangeN (by omega) (by omega)
    unfold testOf at hu
    split at hu
    · cases hu
    · split at hu
      · injection hu with hu
        subst hu
        exact ⟨⟨hiw, hopw, (show (Lit.int .i64 (-1)).wf = true by decide), hvt⟩, by show tmOp t ≠ 0; omega⟩
      · cases he : earlier p.terms i t.var with
        | none => rw [he] at hu; cases hu
        | some k =>
          rw [he] at hu
          injection hu with hu
          subst hu
          have hk : k < 0 + (p.terms.take i).length := firstVar_lt he
          have hk6 : k < 6 := by simp at hk; omega
          exact ⟨⟨hiw, hopw, wf_rangeN (n := (k : Int)) (by omega) (by omega), (show VOk zVa from ⟨by decide, by decide, by decide⟩)⟩, by show tmOp t ≠ 0; omega⟩
  · exact ⟨by decide, by decide, by simp, fun u hu => by simp at hu⟩
/-- The box of the nodes; a node in its box. -/
def GB (w : World) (gb mb : Nat) (v : Value) : Prop := w.heap[gb]? = some (.cells #[.map (some mb), v] 199 (0, 0))
def NodeAt (w : World) (b : Nat) (x : AlX) (i : Nat) : Prop := w.heap[b]? = some (.cells #[.string x.1.cls, .int .i64 x.1.arity, x.2, .int .i64 (i : Int), .slice none 0 0] 207 (0, 0))
theorem GB.facts {w : World} {gb mb : Nat} {v : Value} (h : GB w gb mb v) : (w.cell? ⟨gb, 0, none⟩ = some (.map (some mb)) ∧ w.cell? ⟨gb, 1, none⟩ = some v) ∧ (∀ j, w.frozen? ⟨gb, j, none⟩ = false) ∧ gb < w.heap.size := by
  unfold GB at h
  refine ⟨⟨?_, ?_⟩, fun j => ?_, lt_of_block' h⟩ <;> simp [World.cell?, World.frozen?, h]
theorem GB.set1 {w : World} {gb mb : Nat} {v : Value} (h : GB w gb mb v) (x : Value) : GB (w.setCell ⟨gb, 1, none⟩ x) gb mb x := by
  have := heap_setCell_same (i := 1) h x
  simpa [GB] using this
theorem lift_gb1 {P : World → Prop} {w : World} {gb mb : Nat} {v y : Value} (h0 : GB w gb mb v) (h : ∀ wt, GB wt gb mb y → Turned w wt gb → P wt) : P (w.setCell ⟨gb, 1, none⟩ y) := h _ (h0.set1 y) (Turned.setCells [y] 1 w gb)
def ptrs (bs : List Nat) : List Value := bs.map fun b => .pointer (some ⟨b, 0, none⟩)
/-- The nodes of Alphas. -/
structure NS (kl : Al → Lit) (w : World) (base gb mb : Nat) (la : Option Addr) (lc : Nat) (L : List AlX) (bs : List Nat) (D : DataW Unit) : Prop where
  box : GB w gb mb (.slice la L.length lc)
  map : w.ownsMap Tryz.prog 229 ptrR mb L.length D
  inv : MIA kl (L.map Prod.fst) bs D
  row : w.ownsRow base 172 1 (.slice la L.length lc) L.length (ptrs bs)
  node : ∀ i x b, L[i]? = some x → bs[i]? = some b → NodeAt w b x i ∧ base ≤ b
  als : ∀ x ∈ L, AlP w base x
  pair : (L.map Prod.snd).Pairwise Apart
  gbase : base ≤ gb ∧ base ≤ mb
theorem mapLt {w : World} {k : TypeId} {b n : Nat} {D : DataW Unit} (h : w.ownsMap Tryz.prog k ptrR b n D) : ∃ es c, w.heap[b]? = some (.map es c) := by
  obtain ⟨es, clock, h1, _⟩ := h
  exact ⟨es, clock, h1⟩
theorem ownsMap_same {w w' : World} {k : TypeId} {b n : Nat} {D : DataW Unit} (h : w.ownsMap Tryz.prog k ptrR b n D) (hb : w'.heap[b]? = w.heap[b]?) : w'.ownsMap Tryz.prog k ptrR b n D := by
  obtain ⟨es, clock, h1, h2⟩ := h
  exact ⟨es, clock, hb.trans h1, h2⟩
theorem NS.bel {kl : Al → Lit} {w w' : World} {base gb mb : Nat} {la : Option Addr} {lc : Nat} {L : List AlX} {bs : List Nat} {D : DataW Unit} (h : NS kl w base gb mb la lc L bs D) (hb : Below w.heap.size w w') : NS kl w' base gb mb la lc L bs D :=
  ⟨(hb.block gb (lt_of_block' h.box)).trans h.box, ownsMap_same h.map (hb.block mb h.map.lt), h.inv, own_bel h.row hb, fun i x b hx hb' => ⟨(hb.block b (lt_of_block' (h.node i x b hx hb').1)).trans (h.node i x b hx hb').1, (h.node i x b hx hb').2⟩, fun x hx => (h.als x hx).bel hb, h.pair, h.gbase⟩
/-- What 'of' may write: the nodes' box, the map, the list's row. -/
structure Fr3 (gb mb : Nat) (row : Option Nat) (w w' : World) : Prop where
  rest : Below 0 w w'
  block : ∀ k, k < w.heap.size → k ≠ gb → k ≠ mb → row ≠ some k → w'.heap[k]? = w.heap[k]?
theorem Fr3.of_below {gb mb : Nat} {row : Option Nat} {w w' : World} (h : Below w.heap.size w w') : Fr3 gb mb row w w' := ⟨h.mono (Nat.zero_le _), fun k hk _ _ _ => h.block k hk⟩
theorem Fr3.own {kl : Al → Lit} {w w' : World} {base gb mb base' : Nat} {la : Option Addr} {lc : Nat} {L : List AlX} {bs : List Nat} {D : DataW Unit} {e : TypeId} {m n : Nat} {v : Value} {xs : List Value} (hf : Fr3 gb mb (Value.slice la L.length lc).ownBlock w w') (h : w.ownsRow base' e m v n xs) (hN : NS kl w base gb mb la lc L bs D) (h1 : 199 ≠ e) (h2 : 172 ≠ e) : w'.ownsRow base' e m v n xs :=
  owns_of_block h fun k hk => by
    obtain ⟨c, hc⟩ := own_type h hk
    refine hf.block k (h.lt k hk).2 (fun e => ?_) (fun e => ?_) (fun e => ?_)
    · subst e
      exact own_far hN.box hc h1
    · subst e
      obtain ⟨es, cl, hm⟩ := mapLt hN.map
      rw [hm] at hc
      cases hc
    · obtain ⟨c', hc'⟩ := own_type hN.row e
      exact own_far hc' hc h2
theorem Fr3.box {kl : Al → Lit} {w w' : World} {base gb mb : Nat} {la : Option Addr} {lc : Nat} {L : List AlX} {bs : List Nat} {D : DataW Unit} {b : Nat} {c : Array Value} {t : TypeId} {fr : Nat × Nat} (hf : Fr3 gb mb (Value.slice la L.length lc).ownBlock w w') (h : w.heap[b]? = some (.cells c t fr)) (hN : NS kl w base gb mb la lc L bs D) (h1 : 199 ≠ t) (h2 : 172 ≠ t) : w'.heap[b]? = some (.cells c t fr) := by
  refine (hf.block b (lt_of_block' h) (fun e => ?_) (fun e => ?_) (fun e => ?_)).trans h
  · subst e
    exact own_far hN.box h h1
  · subst e
    obtain ⟨es, cl, hm⟩ := mapLt hN.map
    rw [hm] at h
    cases h
  · obtain ⟨c', hc'⟩ := own_type hN.row e
    exact own_far hc' h h2
theorem infoPtr : (Tryz.prog.info? 172).map (fun i => (i.zero, i.size, i.bytes)) = some (some (.pointer none), 1, 8) := by kernel_rfl
theorem zeroPtr (w : World) : (zeroValue 172).run Tryz.prog w = .ok (.pointer none) w := by kernel_rfl
/-- One node more. -/
theorem NS.add {kl : Al → Lit} (K : KLA kl) {w w6 w7 w8 : World} {base gb mb nb : Nat} {la la' : Option Addr} {lc lc' : Nat} {L : List AlX} {bs : List Nat} {D : DataW Unit} {x : AlX} {o : Obj}
    (h : NS kl w base gb mb la lc L bs D) (hx : AlP w base x) (hxw : ∀ y ∈ L, Apart y.2 x.2) (hok : AOk x.1) (hno : ¬ seekA x.1 (L.map Prod.fst) < (L.map Prod.fst).length)
    (hnode : NodeAt w nb x L.length) (hbnb : base ≤ nb)
    (ho6 : w6.ownsMap Tryz.prog 229 ptrR mb (L.length + 1) (D.put (kl x.1) (.lit (.int .i64 (nb : Int))))) (hg6 : w.grownBy w6 (some mb))
    (ho7 : w7.ownsRow base 172 1 (.slice la' (L.length + 1) lc') (L.length + 1) (ptrs bs ++ [.pointer (some ⟨nb, 0, none⟩)])) (hg7 : (w6.alloc o).grownBy w7 (Value.slice la L.length lc).ownBlock)
    (hG8 : GB w8 gb mb (.slice la' (L.length + 1) lc')) (ht8 : Turned w7 w8 gb) :
    NS kl w8 base gb mb la' lc' (L ++ [x]) (bs ++ [nb]) (D.put (kl x.1) (.lit (.int .i64 (nb : Int)))) ∧ Fr3 gb mb (Value.slice la L.length lc).ownBlock w w8 := by
  obtain ⟨es0, cl0, hm0⟩ := mapLt h.map
  have hs6 := hg6.size
  have hs7 := hg7.size
  simp at hs7
  -- a block that is none of the three stays
  have stay : ∀ k, k < w.heap.size → k ≠ gb → k ≠ mb → (Value.slice la L.length lc).ownBlock ≠ some k → w8.heap[k]? = w.heap[k]? := fun k hk h1 h2 h3 => by
    rw [ht8.block k h1, hg7.block k (by simp; omega) (fun e => h3 e.symm), Below.heap_alloc _ _ _ (by omega), hg6.block k hk (fun e => h2 (by injection e))]
  have hgm : gb ≠ mb := fun e => by have := h.box; unfold GB at this; rw [e, hm0] at this; cases this
  have stayC : ∀ (k : Nat) (c : Array Value) (t : TypeId) (fr : Nat × Nat), w.heap[k]? = some (.cells c t fr) → t ≠ 199 → t ≠ 172 → w8.heap[k]? = some (.cells c t fr) := fun k c t fr hk h1 h2 => by
    refine (stay k (lt_of_block' hk) (fun e => ?_) (fun e => ?_) (fun e => ?_)).trans hk
    · subst e
      exact own_far hk h.box h1
    · subst e
      rw [hm0] at hk
      cases hk
    · obtain ⟨c', hc'⟩ := own_type h.row e
      exact own_far hk hc' h2
  have stayO : ∀ {e : TypeId} {m : Nat} {v : Value} {n : Nat} {xs : List Value}, w.ownsRow base e m v n xs → e ≠ 199 → e ≠ 172 → w8.ownsRow base e m v n xs := fun ho h1 h2 => owns_of_block ho fun k hk => by
    obtain ⟨c, hc⟩ := own_type ho hk
    rw [stayC k _ _ _ hc h1 h2, hc]
  have hmr : ∀ k, (Value.slice la L.length lc).ownBlock = some k → k ≠ mb := fun k hk e => by
    obtain ⟨c', hc'⟩ := own_type h.row hk
    rw [e, hm0] at hc'
    cases hc'
  refine ⟨⟨?_, ?_, ?_, ?_, ?_, ?_, ?_, h.gbase⟩, ⟨?_, stay⟩⟩
  · simpa using hG8
  · have : w8.ownsMap Tryz.prog 229 ptrR mb (L.length + 1) (D.put (kl x.1) (.lit (.int .i64 (nb : Int)))) := by
      refine ownsMap_same ho6 ?_
      have hlt : mb < w6.heap.size := ho6.lt
      rw [ht8.block mb (fun e => hgm e.symm), hg7.block mb (by simp; omega) (fun e => hmr mb e.symm rfl), Below.heap_alloc _ _ _ hlt]
    simpa using this
  · rw [List.map_append]
    exact h.inv.add K h.map.isMap hok hno
  · have h7 : w8.ownsRow base 172 1 (.slice la' (L.length + 1) lc') (L.length + 1) (ptrs bs ++ [.pointer (some ⟨nb, 0, none⟩)]) := owns_of_block ho7 fun k hk => ht8.block k (fun e => by
      obtain ⟨c, hc⟩ := own_type ho7 hk
      subst e
      have hG7 : w7.heap[k]? = w6.heap[k]? := by
        rw [hg7.block k (by have := lt_of_block' h.box; simp; omega) (fun e => by obtain ⟨c', hc'⟩ := own_type h.row e.symm; exact own_far h.box hc' (by decide)), Below.heap_alloc _ _ _ (by have := lt_of_block' h.box; omega)]
      rw [hG7, hg6.block k (lt_of_block' h.box) (fun e => hgm (by injection e))] at hc
      exact own_far h.box hc (by decide))
    simpa [ptrs] using h7
  · intro i y b hy hb
    have hbl := h.inv.len
    simp at hbl
    by_cases hi : i < L.length
    · rw [List.getElem?_append_left hi] at hy
      rw [List.getElem?_append_left (by omega)] at hb
      exact ⟨stayC b _ _ _ (h.node i y b hy hb).1 (by decide) (by decide), (h.node i y b hy hb).2⟩
    · have hil : i = L.length := by
        have := (List.getElem?_eq_some_iff.1 hy).1
        simp at this
        omega
      subst hil
      simp at hy
      subst hy
      rw [List.getElem?_append_right (by omega), hbl, Nat.sub_self] at hb
      simp at hb
      subst hb
      exact ⟨stayC nb _ _ _ hnode (by decide) (by decide), hbnb⟩
  · intro y hy
    rcases List.mem_append.1 hy with hy | hy
    · exact ⟨(h.als y hy).1, stayO (h.als y hy).2 (by decide) (by decide)⟩
    · simp at hy
      subst hy
      exact ⟨hx.1, stayO hx.2 (by decide) (by decide)⟩
  · rw [List.map_append, List.pairwise_append]
    refine ⟨h.pair, by simp, fun u hu v hv => ?_⟩
    obtain ⟨y, hy, rfl⟩ := List.mem_map.1 hu
    simp at hv
    subst hv
    exact hxw y hy
  · refine ⟨?_, ?_, ?_, ?_, fun k hk => by omega⟩
    · exact (ht8.os.trans hg7.os).trans hg6.os
    · exact (ht8.tape.trans hg7.tape).trans hg6.tape
    · exact (ht8.output.trans hg7.output).trans hg6.output
    · rw [ht8.size]
      omega
end Go.Proofs.YtognpkdgphebeaaGreat

namespace Go.Proofs.YtognpkdgphebeaaGreat
open Go.RowKit Go.Maps
attribute [local go_sem ↓] Go.wp_at_zero Go.wp_at_succ

/-- What 'of' leaves. -/
def OfPost (kl : Al → Lit) (base gb mb : Nat) (la : Option Addr) (lc : Nat) (L : List AlX) (bs : List Nat) (p : Pt) (w : World) (e : Ending) (w' : World) : Prop :=
  ∃ la' lc' L' bs' D' b, e = .returned (.pointer (some ⟨b, 0, none⟩)) ∧ NS kl w' base gb mb la' lc' L' bs' D' ∧ L'.map Prod.fst = addA (L.map Prod.fst) (alphaOf p) ∧ bs'[seekA (alphaOf p) (L.map Prod.fst)]? = some b ∧ Fr3 gb mb (Value.slice la L.length lc).ownBlock w w' ∧ (∀ (i n : Nat), bs[i]? = some n → bs'[i]? = some n) ∧ (∀ g, (Value.slice la' L'.length lc').ownBlock = some g → (Value.slice la L.length lc).ownBlock = some g ∨ w.heap.size ≤ g)
theorem Fr3.trans_below {gb mb : Nat} {row : Option Nat} {u v w : World} (h : Below u.heap.size u v) (k : Fr3 gb mb row v w) : Fr3 gb mb row u w := ⟨(h.mono (Nat.zero_le _)).trans k.rest, fun j hj h1 h2 h3 => (k.block j (Nat.lt_of_lt_of_le hj h.size) h1 h2 h3).trans (h.block j hj)⟩
theorem lift_any {P : World → Prop} {w0 u : World} {o : Obj} (hu : Below w0.heap.size w0 u) (hq : u.heap[w0.heap.size]? = some o) (h : ∀ wt, Below w0.heap.size w0 wt → wt.heap[w0.heap.size]? = some o → P wt) : P u := h u hu hq
set_option maxRecDepth 100000 in
set_option maxHeartbeats 6400000 in
theorem of_any (kl : Al → Lit) (K : KLA kl) (p : Pt) (a_t : Option Addr) (c_t : Nat) {q : Option Nat} (base gb mb : Nat) (la : Option Addr) (lc : Nat) (L : List AlX) (bs : List Nat) (D : DataW Unit) (w : World) (hN : NS kl w base gb mb la lc L bs D) (h_t : TmsAt q w a_t p.terms) (hcl : p.cls.size ≤ maxLen) (hts : ListLe Tm.le maxLen p.terms) (htl : p.terms.length ≤ 1048576) (hcp : p.terms.length ≤ c_t) (hvo : ∀ t ∈ p.terms, VOk t.val) (hL : L.length ≤ 1000) (hbase : base ≤ w.heap.size) :
    Calls Tryz.prog 111 #[.pointer (some ⟨gb, 0, none⟩), .agg #[.bool p.neg, .string p.cls, .slice a_t p.terms.length c_t]] w (OfPost kl base gb mb la lc L bs p w) := by
  have HN := hidN1 hN
  have HT := hidN1 h_t
  have HTS := hidN1 hts
  have HX := hidN1 (alphaOf_ok hcl hvo)
  have HA := hidN1 (fun o => (Below.refl _ _).alloc (Nat.le_refl _) o : ∀ o, Below w.heap.size w (w.alloc o))
  have hu1 := Tryz.underlying229
  clear hN h_t hts hvo
  go_enter Tryz.func111, Tryz.ntmps111
  go_wp2_with fail
  refine (iAlphaOf_any p a_t c_t _ (HT.out.below (HA.out _)) hcl HTS.out htl hcp).mono ?_
  rintro e w1 ⟨⟨a1, c1, rfl, ho1⟩, hb1⟩
  have N1 := hidN1 ((HN.out.bel (HA.out _)).bel hb1)
  have B1 := hidN1 ((HA.out _).trans (hb1.mono (HA.out _).size))
  have hs1 := hb1.size
  simp at hs1
  have XO1 := hidN1 (owns_base ho1 (show w.heap.size ≤ _ by simp))
  obtain ⟨X, hX⟩ : ∃ X, X = alphaOf p := ⟨_, rfl⟩
  have hX6 : X.tests.length ≤ 6 := by rw [hX]; exact alphaOf_len p
  rw [← hX] at XO1 HX ⊢
  have HXE := hidN1 hX
  clear hX ho1 hb1 HA HT HTS
  go_upto_region 2 with fail
  refine lift_alloc ?_
  intro w2 hW2 hq2
  obtain ⟨g0, g1, g2⟩ := cells3N hq2
  have N2 := hidN1 (N1.out.bel hW2)
  have B2 := hidN1 (B1.out.trans (hW2.mono B1.out.size))
  have XO2 := hidN1 (own_bel XO1.out hW2)
  have hs2 := hW2.size
  have hl2 : w1.heap.size < w2.heap.size := lt_of_block' hq2
  clear hW2 hq2 N1 B1 XO1
  go_wp2_with fail
  refine (keyA_any X a1 c1 w2 (TtsAt.owns XO2.out) hX6).mono ?_
  rintro e w3 ⟨rfl, hb3⟩
  have hlk : (keyA X).length = 38 := by unfold keyA; rw [keyOnA_len, padT_len _ hX6]
  have HLK := hidN1 hlk
  have g0' := cell_below hb3 g0
  have g1' := cell_below hb3 g1
  have g2' := cell_below hb3 g2
  have N3 := hidN1 (N2.out.bel hb3)
  have B3 := hidN1 (B2.out.trans (hb3.mono B2.out.size))
  have XO3 := hidN1 (own_bel XO2.out hb3)
  have hs3 := hb3.size
  clear hlk g0 g1 g2 hb3 N2 B2 XO2
  go_upto_region 3 with (refine wpList_store_blk (by rfl) 229 (.tmp 6) (.tmp 12) (by rfl) w3.heap.size (keyA X) (by rfl) (by rfl) _ 229 (new_blkA _ _ _ rfl) (by rw [HLK.out]; rfl) (by rw [HLK.out]; exact infoKA) (keyOnA_one _ _ _) ?_; intro w4 hk4 ht4)
  have hB34 : Below w3.heap.size w3 w4 := ((Below.refl _ _).alloc (Nat.le_refl _) _).trans (ht4.out.below (Nat.le_refl _))
  have G0 := cell_below hB34 g0'
  have G1 := cell_below hB34 g1'
  have G2 := cell_below hB34 g2'
  have N4 := hidN1 (N3.out.bel hB34)
  have B4 := hidN1 (B3.out.trans (hB34.mono B3.out.size))
  have XO4 := hidN1 (own_bel XO3.out hB34)
  have hs4 := hB34.size
  have RK := hidN1 (range_blk hk4.out)
  have hkb4 : w3.heap.size < w4.heap.size := lt_of_block' hk4.out
  have hinf : (Tryz.prog.info? 229).map (·.size) = some (keyA X).length := by rw [HLK.out]; exact infoKA
  obtain ⟨⟨m0, m1⟩, _, hgl⟩ := N4.out.box.facts
  obtain ⟨v, ps, hrun, hv⟩ := (N4.out.map.drew).look_ok lawKA (t := 196) Tryz.underlying196 (zeroPtr _) (show ptrR (.pointer none) = some (zP, []) from rfl) (K X HX.out)
  have hAL : (L.map Prod.fst).length = L.length := by simp
  clear g0' g1' g2' hB34 N3 B3 XO3 ht4 hk4
  by_cases hin : seekA X (L.map Prod.fst) < (L.map Prod.fst).length
  · obtain ⟨b, hb⟩ : ∃ b, bs[seekA X (L.map Prod.fst)]? = some b := ⟨bs[seekA X (L.map Prod.fst)]'(by rw [N4.out.inv.len]; exact hin), by simp⟩
    obtain ⟨hy1, hy2⟩ := N4.out.inv.yes X b HX.out hb
    rw [hy1] at hrun
    rw [hy2] at hv
    have hvp := ptrR_inv hv
    subst hvp
    have HB := hidN1 hb
    have HIN := hidN1 hin
    clear hv hy1 hy2 hb hin
    refine wp_region_noPanic ?_
    refine wp_region_held_drew (S := (fun w' => w'.cell? ⟨gb, 0, none⟩ = some (.map (some mb)) ∧ w'.rangeAt w3.heap.size 0 (keyA X))) (by kernel_rfl) ?_ (fun hHeld => ?_)
    · (try dsimp only)
      exact ⟨m0, RK.out⟩
    refine tk 0 hHeld ?_
    (try simp only [Act.put, List.setIfInBounds_toArray, List.set_cons_zero, List.set_cons_succ])
    refine tk 1 hHeld ?_
    (try simp only [Act.put, List.setIfInBounds_toArray, List.set_cons_zero, List.set_cons_succ])
    refine tk 2 hHeld ?_
    (try simp only [Act.put, List.setIfInBounds_toArray, List.set_cons_zero, List.set_cons_succ])
    refine tk 3 hHeld ?_
    (try simp only [Act.put, List.setIfInBounds_toArray, List.set_cons_zero, List.set_cons_succ])
    refine wpAnyH_take (i := 4) (oi := ?oi1) (v := ?v1) ?hi1 (by kernel_rfl) (by kernel_rfl) (by kernel_rfl) (fun _ _ _ h => h) ?yl1 hHeld ?rest1
    case hi1 => (simp only [List.getElem?_toArray, List.getElem?_cons_succ, List.getElem?_cons_zero]; rfl)
    case yl1 =>
      refine' yieldsIf_load_mid (by rfl) _ _ rfl _ _ rfl _ _ ?hS ?hu ?hd ?hj
      case hS => (intro w hSw; exact hSw.2)
      case hu => exact hu1
      case hd => rfl
      case hj => exact hinf
    (try simp only [Act.put, List.setIfInBounds_toArray, List.set_cons_zero, List.set_cons_succ])
    refine wpAnyH_ready (rs := [5]) (by kernel_rfl) (by simp) ?_
    refine AllReadyH.cons (o := ?o2) ?ho2 (fun K hK => ?step2) AllReadyH.nil
    case ho2 => (simp only [List.getElem?_toArray, List.getElem?_cons_succ, List.getElem?_cons_zero]; rfl)
    go_simp
    refine hK.out _ _ ?hS2 (fun hHeld' => ?rest2)
    case hS2 => ((try dsimp only); exact ⟨m0, RK.out⟩)
    clear hK K
    (try simp only [Act.put, List.setIfInBounds_toArray, List.set_cons_zero, List.set_cons_succ])
    clear hHeld
    have hHeld := hHeld'
    clear hHeld'
    refine tk 6 hHeld ?_
    (try simp only [Act.put, List.setIfInBounds_toArray, List.set_cons_zero, List.set_cons_succ])
    refine tk 7 hHeld ?_
    (try simp only [Act.put, List.setIfInBounds_toArray, List.set_cons_zero, List.set_cons_succ])
    refine tk 8 hHeld ?_
    (try simp only [Act.put, List.setIfInBounds_toArray, List.set_cons_zero, List.set_cons_succ])
    refine tk 9 hHeld ?_
    (try simp only [Act.put, List.setIfInBounds_toArray, List.set_cons_zero, List.set_cons_succ])
    refine tk 10 hHeld ?_
    (try simp only [Act.put, List.setIfInBounds_toArray, List.set_cons_zero, List.set_cons_succ])
    refine wpAnyH_done (by kernel_rfl) ?_ _
    refine NoPanic.normal ?_
    go_wp2_with fail
    go_ret
    exact ⟨la, lc, L, bs, D, b, rfl, N4.out.bel (Below.refl _ _).drew, by rw [← HXE.out, addA_has HIN.out], by rw [← HXE.out]; exact HB.out, Fr3.of_below (B4.out.trans (Below.refl _ _).drew), fun _ _ h => h, fun _ h => .inl h⟩
  · have hno := N4.out.inv.no X HX.out hin
    rw [hno] at hrun
    have HIN := hidN1 hin
    clear hv hno hin
    refine wp_region_noPanic ?_
    refine wp_region_held_drew (S := (fun w' => w'.cell? ⟨gb, 0, none⟩ = some (.map (some mb)) ∧ w'.rangeAt w3.heap.size 0 (keyA X))) (by kernel_rfl) ?_ (fun hHeld => ?_)
    · (try dsimp only)
      exact ⟨m0, RK.out⟩
    refine tk 0 hHeld ?_
    (try simp only [Act.put, List.setIfInBounds_toArray, List.set_cons_zero, List.set_cons_succ])
    refine tk 1 hHeld ?_
    (try simp only [Act.put, List.setIfInBounds_toArray, List.set_cons_zero, List.set_cons_succ])
    refine tk 2 hHeld ?_
    (try simp only [Act.put, List.setIfInBounds_toArray, List.set_cons_zero, List.set_cons_succ])
    refine tk 3 hHeld ?_
    (try simp only [Act.put, List.setIfInBounds_toArray, List.set_cons_zero, List.set_cons_succ])
    refine wpAnyH_take (i := 4) (oi := ?oi3) (v := ?v3) ?hi3 (by kernel_rfl) (by kernel_rfl) (by kernel_rfl) (fun _ _ _ h => h) ?yl3 hHeld ?rest3
    case hi3 => (simp only [List.getElem?_toArray, List.getElem?_cons_succ, List.getElem?_cons_zero]; rfl)
    case yl3 =>
      refine' yieldsIf_load_mid (by rfl) _ _ rfl _ _ rfl _ _ ?hS ?hu ?hd ?hj
      case hS => (intro w hSw; exact hSw.2)
      case hu => exact hu1
      case hd => rfl
      case hj => exact hinf
    (try simp only [Act.put, List.setIfInBounds_toArray, List.set_cons_zero, List.set_cons_succ])
    refine wpAnyH_ready (rs := [5]) (by kernel_rfl) (by simp) ?_
    refine AllReadyH.cons (o := ?o4) ?ho4 (fun K hK => ?step4) AllReadyH.nil
    case ho4 => (simp only [List.getElem?_toArray, List.getElem?_cons_succ, List.getElem?_cons_zero]; rfl)
    go_simp
    refine hK.out _ _ ?hS4 (fun hHeld' => ?rest4)
    case hS4 => ((try dsimp only); exact ⟨m0, RK.out⟩)
    clear hK K
    (try simp only [Act.put, List.setIfInBounds_toArray, List.set_cons_zero, List.set_cons_succ])
    clear hHeld
    have hHeld := hHeld'
    clear hHeld'
    refine tk 6 hHeld ?_
    (try simp only [Act.put, List.setIfInBounds_toArray, List.set_cons_zero, List.set_cons_succ])
    refine tk 7 hHeld ?_
    (try simp only [Act.put, List.setIfInBounds_toArray, List.set_cons_zero, List.set_cons_succ])
    refine tk 8 hHeld ?_
    (try simp only [Act.put, List.setIfInBounds_toArray, List.set_cons_zero, List.set_cons_succ])
    refine tk 9 hHeld ?_
    (try simp only [Act.put, List.setIfInBounds_toArray, List.set_cons_zero, List.set_cons_succ])
    refine tk 10 hHeld ?_
    (try simp only [Act.put, List.setIfInBounds_toArray, List.set_cons_zero, List.set_cons_succ])
    refine wpAnyH_done (by kernel_rfl) ?_ _
    refine NoPanic.normal ?_
    go_upto_region 5 with fail
    have HB5 := hidN1 (fun o => (Below.refl _ _).alloc (Nat.le_refl _) o : ∀ o, Below w4.heap.size w4 (w4.alloc o))
    clear hrun
    have D0 : w4.drew.drew.cell? ⟨w1.heap.size, 0, none⟩ = some (.string X.cls) := G0
    have E0 : ∀ o, (w4.alloc o).drew.drew.cell? ⟨w1.heap.size, 0, none⟩ = some (.string X.cls) := fun o => cell_below (HB5.out o).drew.drew G0
    have D1 : w4.drew.drew.cell? ⟨w1.heap.size, 1, none⟩ = some (.int .i64 X.arity) := G1
    have E1 : ∀ o, (w4.alloc o).drew.drew.cell? ⟨w1.heap.size, 1, none⟩ = some (.int .i64 X.arity) := fun o => cell_below (HB5.out o).drew.drew G1
    have D2 : w4.drew.drew.cell? ⟨w1.heap.size, 2, none⟩ = some (.slice a1 X.tests.length c1) := G2
    have E2 : ∀ o, (w4.alloc o).drew.drew.cell? ⟨w1.heap.size, 2, none⟩ = some (.slice a1 X.tests.length c1) := fun o => cell_below (HB5.out o).drew.drew G2
    have D3 : w4.drew.drew.cell? ⟨gb, 1, none⟩ = some (.slice la L.length lc) := m1
    have E3 : ∀ o, (w4.alloc o).drew.drew.cell? ⟨gb, 1, none⟩ = some (.slice la L.length lc) := fun o => cell_below (HB5.out o).drew.drew m1
    go_region_held3 (fun w' => w'.cell? ⟨w1.heap.size, 0, none⟩ = some (.string X.cls) ∧ w'.cell? ⟨w1.heap.size, 1, none⟩ = some (.int .i64 X.arity) ∧ w'.cell? ⟨w1.heap.size, 2, none⟩ = some (.slice a1 X.tests.length c1) ∧ w'.cell? ⟨gb, 1, none⟩ = some (.slice la L.length lc)) (first | with_reducible exact ⟨D0, D1, D2, D3⟩ | with_reducible exact ⟨E0 _, E1 _, E2 _, E3 _⟩) (fail)
    go_upto_region 6 with fail
    refine lift_any (w0 := w4) (o := .cells #[.string X.cls, .int .i64 X.arity, .slice a1 X.tests.length c1, .int .i64 (L.length : Int), .slice none 0 0] 207) ((HB5.out _).drew.drew) (heap_alloc_new _ _) ?_
    intro w5 hW5 hq5
    have N5 := hidN1 (N4.out.bel hW5)
    have ND5 := hidN1 (show NodeAt w5 w4.heap.size (X, .slice a1 X.tests.length c1) L.length from hq5)
    have B5 := hidN1 (B4.out.trans (hW5.mono B4.out.size))
    have XO5 := hidN1 (own_bel XO4.out hW5)
    have RK5 := hidN1 (show w5.rangeAt w3.heap.size 0 (keyA X) from fun j u hu => cell_below hW5 (RK.out j u hu))
    have hs5 := hW5.size
    have hl5 : w4.heap.size < w5.heap.size := lt_of_block' hq5
    clear D0 D1 D2 D3 E0 E1 E2 E3
    clear hW5 hq5 G0 G1 G2 m0 m1 hgl B4 XO4 RK HB5
    obtain ⟨⟨m0, m1⟩, _, hgl⟩ := N5.out.box.facts
    obtain ⟨es0, cl0, hm0⟩ := mapLt N5.out.map
    have hgm : gb ≠ mb := fun e => by have := N5.out.box; unfold GB at this; rw [e, hm0] at this; cases this
    have hkm : w3.heap.size ≠ mb := fun e => by have := N4.out.map.lt; have h2 := HN.out.map.lt; omega
    obtain ⟨w6, hrun6, ho6, hg6⟩ := (N5.out.map.drew).update lawKA (t := 196) Tryz.underlying196 (by unfold maxLen; omega) (K X HX.out) (ptrR_mk w4.heap.size)
    have M6 := hidN1 ho6
    have GR6 := hidN1 (show w5.grownBy w6 (some mb) from ⟨hg6.os, hg6.tape, hg6.output, hg6.size, hg6.block⟩)
    have hs6 : w5.heap.size ≤ w6.heap.size := hg6.size
    have GB6 := hidN1 (show GB w6 gb mb (.slice la L.length lc) from (GR6.out.block gb hgl (fun e => hgm (by injection e))).trans N5.out.box)
    have RK6 := hidN1 (show w6.rangeAt w3.heap.size 0 (keyA X) from fun j u hu => (World.cell?_of_block (w := w5) (GR6.out.block w3.heap.size (by omega) (fun e => hkm (by injection e)))).trans (RK5.out j u hu))
    have R6 := hidN1 (show w6.ownsRow base 172 1 (.slice la L.length lc) L.length (ptrs bs) from owns_of_block N5.out.row fun k hk => GR6.out.block k (N5.out.row.lt k hk).2 (fun e => by injection e with e; obtain ⟨c', hc'⟩ := own_type N5.out.row hk; rw [e, hm0] at hc'; cases hc'))
    obtain ⟨⟨k0, k1⟩, _, hgl6⟩ := GB6.out.facts
    clear ho6 hg6 hm0
    refine wp_region_noPanic ?_
    refine wp_region_held_drew (S := (fun w' => w'.cell? ⟨gb, 0, none⟩ = some (.map (some mb)) ∧ w'.rangeAt w3.heap.size 0 (keyA X))) (by kernel_rfl) ?_ (fun hHeld => ?_)
    · (try dsimp only)
      exact ⟨m0, RK5.out⟩
    refine tk 0 hHeld ?_
    (try simp only [Act.put, List.setIfInBounds_toArray, List.set_cons_zero, List.set_cons_succ])
    refine tk 1 hHeld ?_
    (try simp only [Act.put, List.setIfInBounds_toArray, List.set_cons_zero, List.set_cons_succ])
    refine tk 2 hHeld ?_
    (try simp only [Act.put, List.setIfInBounds_toArray, List.set_cons_zero, List.set_cons_succ])
    refine tk 3 hHeld ?_
    (try simp only [Act.put, List.setIfInBounds_toArray, List.set_cons_zero, List.set_cons_succ])
    refine wpAnyH_take (i := 4) (oi := ?oi5) (v := ?v5) ?hi5 (by kernel_rfl) (by kernel_rfl) (by kernel_rfl) (fun _ _ _ h => h) ?yl5 hHeld ?rest5
    case hi5 => (simp only [List.getElem?_toArray, List.getElem?_cons_succ, List.getElem?_cons_zero]; rfl)
    case yl5 =>
      refine' yieldsIf_load_mid (by rfl) _ _ rfl _ _ rfl _ _ ?hS ?hu ?hd ?hj
      case hS => (intro w hSw; exact hSw.2)
      case hu => exact hu1
      case hd => rfl
      case hj => exact hinf
    (try simp only [Act.put, List.setIfInBounds_toArray, List.set_cons_zero, List.set_cons_succ])
    refine tk 5 hHeld ?_
    (try simp only [Act.put, List.setIfInBounds_toArray, List.set_cons_zero, List.set_cons_succ])
    refine wpAnyH_ready (rs := [6]) (by kernel_rfl) (by simp) ?_
    refine AllReadyH.cons (o := ?o6) ?ho6 (fun K hK => ?step6) AllReadyH.nil
    case ho6 => (simp only [List.getElem?_toArray, List.getElem?_cons_succ, List.getElem?_cons_zero]; rfl)
    go_simp
    refine hK.out _ _ ?hS6 (fun hHeld' => ?rest6)
    case hS6 => ((try dsimp only); exact ⟨k0, RK6.out⟩)
    clear hK K
    (try simp only [Act.put, List.setIfInBounds_toArray, List.set_cons_zero, List.set_cons_succ])
    clear hHeld
    have hHeld := hHeld'
    clear hHeld'
    refine wpAnyH_done (by kernel_rfl) ?_ _
    refine NoPanic.normal ?_
    have HW := hidN1 (fun o => (Below.refl _ _).alloc (Nat.le_refl _) o : ∀ o, Below w6.heap.size w6 (w6.alloc o))
    have GBA := hidN1 (fun o => show GB (w6.alloc o) gb mb (.slice la L.length lc) from ((HW.out o).block gb hgl6).trans GB6.out)
    have TY := hidN1 (fun o k hk => own_type (own_bel R6.out (HW.out o)) (k := k) hk)
    clear m0 m1 hrun6
    go_upto_region 8 with (first | (at_builtin; refine wpList_append_any (by rfl) (.tmp 42) (.tmp 44) 197 (by rfl) base 172 _ 1 8 Tryz.underlying197 infoPtr (by rfl) (by omega) _ L.length _ (by rfl) (own_bel R6.out (HW.out _)) (some ⟨_, 0, none⟩) 1 1 (by rfl) [.pointer (some ⟨w4.heap.size, 0, none⟩)] (by rfl) (fun e => by cases e) (news_new _ _ _ _ (by simp)) (by intro u hu; simp at hu; subst hu; rfl) (by unfold maxLen; omega) (by omega) (by simp; omega) ?_; intro a7 c7 w7 ho7 hg7 hl7; have GB7 := hidN1 (show GB w7 gb mb (.slice la L.length lc) from box_grown (GBA.out _) hg7.out (TY.out _) (by decide)); obtain ⟨⟨l0, l1⟩, z, _⟩ := GB7.out.facts; have z1 := z 1; clear z) | fail)
    refine lift_gb1 GB7.out ?_
    intro w8 hG8 ht8
    have hR := NS.add K (x := (X, .slice a1 X.tests.length c1)) N5.out ⟨⟨a1, c1, rfl⟩, owns_base XO5.out hbase⟩ (fun y hy g hg hgx => by have h1 := ((HN.out.als y hy).2.lt g hg).2; have h2 := (XO5.out.lt g hgx).1; omega) HX.out HIN.out ND5.out (by omega) M6.out GR6.out ho7.out hg7.out hG8 ht8
    have HR := hidN1 hR
    have hbl : bs.length = L.length := by have := N5.out.inv.len; simpa using this
    have HBL := hidN1 hbl
    clear hR hbl hG8 ht8
    go_wp2_with fail
    go_ret
    refine ⟨a7, c7, L ++ [(X, .slice a1 X.tests.length c1)], bs ++ [w4.heap.size], _, w4.heap.size, rfl, HR.out.1, ?_, ?_, Fr3.trans_below B5.out HR.out.2, fun i n h => by rw [List.getElem?_append_left (List.getElem?_eq_some_iff.1 h).1]; exact h, ?_⟩
    · rw [← HXE.out, addA_new HIN.out]
      simp
    · rw [← HXE.out, seekA_new HIN.out, hAL, List.getElem?_append_right (Nat.le_of_eq HBL.out), HBL.out, Nat.sub_self]
      rfl
    · intro g hg
      rw [List.length_append] at hg
      rcases hl7.out with h | h
      · rw [show L.length + [(X, Value.slice a1 X.tests.length c1)].length = L.length + 1 from rfl, h] at hg
        exact .inl hg
      · rw [show L.length + [(X, Value.slice a1 X.tests.length c1)].length = L.length + 1 from rfl, h] at hg
        injection hg with hg
        have h5 := B5.out.size
        simp at hg
        exact .inr (by omega)
end Go.Proofs.YtognpkdgphebeaaGreat

namespace Go.Proofs.YtognpkdgphebeaaGreat
open Go.RowKit Go.Maps
attribute [local go_sem ↓] Go.wp_at_zero Go.wp_at_succ

/-- A block of the nodes' types. -/
def NTy (t : TypeId) : Prop := t = 199 ∨ t = 172 ∨ t = 207 ∨ t = 226
theorem NS.keptB {kl : Al → Lit} {w w' : World} {base gb mb : Nat} {la : Option Addr} {lc : Nat} {L : List AlX} {bs : List Nat} {D : DataW Unit} (h : NS kl w base gb mb la lc L bs D) (hb : ∀ k, k < w.heap.size → (∀ c t fr, w.heap[k]? = some (Obj.cells c t fr) → NTy t) → w'.heap[k]? = w.heap[k]?) : NS kl w' base gb mb la lc L bs D := by
  have key : ∀ (k : Nat) (c : Array Value) (t : TypeId) (fr : Nat × Nat), w.heap[k]? = some (.cells c t fr) → NTy t → w'.heap[k]? = some (.cells c t fr) := fun k c t fr hk ht => (hb k (lt_of_block' hk) (fun c' t' fr' hk' => by rw [hk] at hk'; injection hk' with hk'; injection hk' with _ h2; rw [← h2]; exact ht)).trans hk
  have keyO : ∀ {e : TypeId} {m : Nat} {v : Value} {n : Nat} {xs : List Value}, w.ownsRow base e m v n xs → NTy e → w'.ownsRow base e m v n xs := fun ho he => owns_of_block ho fun k hk => by
    obtain ⟨c, hc⟩ := own_type ho hk
    rw [key k _ _ _ hc he, hc]
  refine ⟨key _ _ _ _ h.box (.inl rfl), ?_, h.inv, keyO h.row (.inr (.inl rfl)), fun i x b hx hb' => ⟨key _ _ _ _ (h.node i x b hx hb').1 (.inr (.inr (.inl rfl))), (h.node i x b hx hb').2⟩, fun x hx => ⟨(h.als x hx).1, keyO (h.als x hx).2 (.inr (.inr (.inr rfl)))⟩, h.pair, h.gbase⟩
  obtain ⟨es, cl, hm⟩ := mapLt h.map
  exact ownsMap_same h.map (hb mb h.map.lt (fun c t fr hc => by rw [hm] at hc; cases hc))
theorem NS.grown {kl : Al → Lit} {w w' : World} {base gb mb : Nat} {la : Option Addr} {lc : Nat} {L : List AlX} {bs : List Nat} {D : DataW Unit} {t : TypeId} {row : Option Nat} (h : NS kl w base gb mb la lc L bs D) (hg : w.grownBy w' row) (ht : ∀ k, row = some k → ∃ c, w.heap[k]? = some (.cells c t (0, 0))) (hne : ¬ NTy t) : NS kl w' base gb mb la lc L bs D :=
  h.keptB fun k hk hty => hg.block k hk (fun e => by
    obtain ⟨c, hc⟩ := ht k e.symm
    exact hne (hty _ _ _ hc))
theorem Fr3.below {gb mb B : Nat} {row : Option Nat} {w w' : World} (h : Fr3 gb mb row w w') (h0 : B ≤ w.heap.size) (h1 : B ≤ gb) (h2 : B ≤ mb) (h3 : ∀ k, row = some k → B ≤ k) : Below B w w' :=
  ⟨h.rest.os, h.rest.tape, h.rest.output, h.rest.size, fun k hk => h.block k (by omega) (by omega) (by omega) (fun e => by have := h3 k e; omega)⟩
theorem run_makeMapN {P : Program} (t : TypeId) (w : World) : (Instr.makeMap t none).run P w = .ok (.map (some w.heap.size)) (w.alloc (.map #[] 0)) := by
  simp [Instr.makeMap]
set_option maxHeartbeats 400000 in
theorem newNodes_any (kl : Al → Lit) (w : World) : Calls Tryz.prog 88 #[] w fun e w' => e = .returned (.pointer (some ⟨w.heap.size + 1, 0, none⟩)) ∧ NS kl w' w.heap.size (w.heap.size + 1) w.heap.size none 0 [] [] (.map []) ∧ Below w.heap.size w w' := by
  have hmm := run_makeMapN (P := Tryz.prog) 196
  go_enter Tryz.func88, Tryz.ntmps88
  go_wp2_with fail
  go_ret
  refine ⟨rfl, ⟨?_, ?_, MIA.start kl, World.ownsRow_nil _ _ _ _, fun i x b hx => by simp at hx, fun x hx => by simp at hx, List.Pairwise.nil, by omega⟩, ((Below.refl _ _).alloc (Nat.le_refl _) _).alloc (by simp) _⟩
  · exact new_blkA _ _ _ (by simp)
  · exact ownsMap_same (World.ownsMap_made w Tryz.prog 229 ptrR) (Below.heap_alloc _ _ _ (by simp))
end Go.Proofs.YtognpkdgphebeaaGreat
