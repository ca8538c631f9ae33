/-
  OUR OWN TEXT. The program: the plans of rules, with the facts in their nodes.
-/
import Derived.Test.YtognpkdgphebeaaGreatVe
import Derived.Test.YtognpkdgphebeaaGreatJl
import Derived.Test.YtognpkdgphebeaaGreatUi
import Derived.Test.YtognpkdgphebeaaGreatOb
namespace Go.Proofs.YtognpkdgphebeaaGreat
open Go.RowKit Go.Maps
attribute [local go_sem ↓] Go.wp_at_zero Go.wp_at_succ

/-- Only blocks from E on, below B, were written. -/
structure Lko (E B : Nat) (w w' : World) : Prop where
  os : w'.os = w.os
  tape : w'.tape = w.tape
  output : w'.output = w.output
  size : w.heap.size ≤ w'.heap.size
  block : ∀ g, g < w.heap.size → (g < E ∨ B ≤ g) → w'.heap[g]? = w.heap[g]?
theorem Lko.refl (E B : Nat) (w : World) : Lko E B w w := ⟨rfl, rfl, rfl, Nat.le_refl _, fun _ _ _ => rfl⟩
theorem Lko.of_below {E B : Nat} {w w' : World} (h : Below w.heap.size w w') : Lko E B w w' := ⟨h.os, h.tape, h.output, h.size, fun g hg _ => h.block g hg⟩
theorem Lko.of_turned {E B b : Nat} {w w' : World} (h : Turned w w' b) (h1 : E ≤ b) (h2 : b < B) : Lko E B w w' := ⟨h.os, h.tape, h.output, Nat.le_of_eq h.size.symm, fun g _ h3 => h.block g (by omega)⟩
theorem Lko.trans {E B : Nat} {u v w : World} (h : Lko E B u v) (k : Lko E B v w) : Lko E B u w := ⟨k.os.trans h.os, k.tape.trans h.tape, k.output.trans h.output, Nat.le_trans h.size k.size, fun g hg h3 => (k.block g (Nat.lt_of_lt_of_le hg h.size) h3).trans (h.block g hg h3)⟩
theorem Lko.below {E B : Nat} {u v w : World} (k : Below E u v) (hE : E ≤ v.heap.size) (h : Lko E B v w) : Below E u w := ⟨h.os.trans k.os, h.tape.trans k.tape, h.output.trans k.output, Nat.le_trans k.size h.size, fun g hg => (h.block g (Nat.lt_of_lt_of_le hg hE) (.inl hg)).trans (k.block g hg)⟩
theorem Lko.own {E B base : Nat} {w w' : World} {e : TypeId} {m : Nat} {v : Value} {n : Nat} {xs : List Value} (h : Lko E B w w') (ho : w.ownsRow base e m v n xs) (hB : B ≤ base) : w'.ownsRow base e m v n xs :=
  owns_of_block ho fun k hk => h.block k (ho.lt k hk).2 (.inr (Nat.le_trans hB (ho.lt k hk).1))
theorem PD.lk {E B base : Nat} {w w' : World} {ca : Option Addr} {cc : Nat} {va : Option Addr} {vc : Nat} {X : List Cx} {U : List Vr} {A : List Al} {bs : List Nat} (h : PD w base ca cc va vc X U A bs) (hl : Lko E B w w') (hB : B ≤ base) : PD w' base ca cc va vc X U A bs :=
  ⟨hl.own h.conds hB, hl.own h.vars hB, fun c hc => hl.own (h.tests c hc) hB, h.nodes⟩
theorem PLS.lk {E B base : Nat} {w w' : World} {a : Option Addr} {c : Nat} {P : List Px} {A : List Al} {bs : List Nat} (h : PLS w base a c P A bs) (hl : Lko E B w w') (hB : B ≤ base) : PLS w' base a c P A bs :=
  ⟨hl.own h.row hB, fun x hx => (h.each x hx).lk hl hB⟩
theorem NF.lk {E B : Nat} {w w' : World} {base gb mb : Nat} {la : Option Addr} {lc : Nat} {L : List AlX} {bs : List Nat} {V : List Value} {QQ : Nat → List (Value × F)} (h : NF w base gb mb la lc L bs V QQ) (hl : Lko E B w w') (hB : B ≤ base) (hg : B ≤ gb) : NF w' base gb mb la lc L bs V QQ :=
  ⟨(hl.block gb (lt_of_block' h.box) (.inr hg)).trans h.box, hl.own h.row hB, h.lenb, h.lenv, fun i x b v hx hb' hv => by
    obtain ⟨h1, h2, h3, h4⟩ := h.node i x b v hx hb' hv
    exact ⟨(hl.block b (lt_of_block' h1) (.inr (Nat.le_trans hB h2))).trans h1, h2, h3, hl.own h4 hB⟩, fun x hx => ⟨(h.als x hx).1, hl.own (h.als x hx).2 hB⟩, h.apart⟩
/-- Where a plan lies, and its conditions with their facts. -/
structure Pw where
  ca : Option Addr
  cc : Nat
  va : Option Addr
  vc : Nat
  cs : List Cn
/-- Plans of rules in memory. -/
def PlsAt (w : World) (B : Nat) (fs : List F) (a : Option Addr) (rs : List Ru) (PW : List Pw) : Prop :=
  ∀ (i : Nat) (r : Ru) (x : Pw), rs[i]? = some r → PW[i]? = some x → ∃ b o, a = some ⟨b, o, none⟩ ∧ B ≤ b ∧ w.cell? ⟨b, o + i * 2, none⟩ = some (.slice x.ca x.cs.length x.cc) ∧ w.cell? ⟨b, o + i * 2 + 1, none⟩ = some (.slice x.va (varsGo r.pats [] 0).length x.vc) ∧ PlnAt w fs x.ca x.va r x.cs ∧ x.cs.length ≤ x.cc ∧ w.ownsRow B 101 3 (.slice x.va (varsGo r.pats [] 0).length x.vc) (varsGo r.pats [] 0).length ((varsGo r.pats [] 0).flatMap vrCells)
theorem PlsAt.lower {w : World} {B B' : Nat} {fs : List F} {a : Option Addr} {rs : List Ru} {PW : List Pw} (h : PlsAt w B fs a rs PW) (hB' : B' ≤ B) : PlsAt w B' fs a rs PW := by
  intro i r x hi hx
  obtain ⟨b, o, e, hB, h0, h1, h2, h3, h4⟩ := h i r x hi hx
  exact ⟨b, o, e, Nat.le_trans hB' hB, h0, h1, h2, h3, owns_base h4 hB'⟩
theorem gFacts_len {fs : List F} (h : gFacts fs = true) : fs.length ≤ 40 := by
  have h' : (decide (fs.length ≤ 40) && gFrom 0 fs) = true := h
  simp only [Bool.and_eq_true, decide_eq_true_eq] at h'
  exact h'.1
/-- What a plan's data are, of the rules as far as k. -/
def PxOf (P : List Px) (rs : List Ru) (k : Nat) : Prop := P.length = k ∧ ∀ (i : Nat) (x : Px) (r : Ru), P[i]? = some x → rs[i]? = some r → x.X.map Cx.cp = planGo r.pats [] 0 ∧ x.U = varsGo r.pats [] 0
theorem PxOf.snoc {P : List Px} {rs : List Ru} {k : Nat} {x : Px} {r : Ru} (h : PxOf P rs k) (hr : rs[k]? = some r) (h1 : x.X.map Cx.cp = planGo r.pats [] 0) (h2 : x.U = varsGo r.pats [] 0) : PxOf (P ++ [x]) rs (k + 1) := by
  refine ⟨by simp [h.1], fun i y q hy hq => ?_⟩
  by_cases hi : i < P.length
  · rw [List.getElem?_append_left hi] at hy
    exact h.2 i y q hy hq
  · have hil : i = P.length := by
      have := (List.getElem?_eq_some_iff.1 hy).1
      simp at this
      omega
    subst hil
    simp at hy
    subst hy
    rw [h.1, hr] at hq
    cases hq
    exact ⟨h1, h2⟩
theorem capP {w : World} {base : Nat} {e : TypeId} {m : Nat} {a : Option Addr} {n c : Nat} {xs : List Value} (h : w.ownsRow base e m (.slice a n c) n xs) : n ≤ c := by
  rcases h.2 with ⟨he, h0⟩ | ⟨g, cap, cur, he, _, _, hnc, _⟩
  · rw [h0]
    exact Nat.zero_le _
  · cases he
    exact hnc
/-- The plans and the nodes, as they lie; Q: the facts with their pointers. -/
structure Raw (wE w w' : World) (fs : List F) (a : Option Addr) (c : Nat) (rs : List Ru) (base gb mb : Nat) (la : Option Addr) (lc : Nat) (L : List AlX) (bs : List Nat) (V : List Value) (P : List Px) (Q : List (Value × F)) : Prop where
  px : PxOf P rs rs.length
  base_le : w.heap.size ≤ base
  mem : ∀ w'', Lko wE.heap.size w.heap.size w' w'' → PLS w'' base a c P (L.map Prod.fst) bs ∧ NF w'' base gb mb la lc L bs V (fun _ => Q)
  snd : Q.map Prod.snd = fs
  facs : ∀ y ∈ Q, FacAt wE y.1 y.2
/-- What plansOver leaves; wE: where the facts were. -/
def PoPost (rs : List Ru) (fs : List F) (wE w : World) (e : Ending) (w' : World) : Prop :=
  (if ready rs fs = true then ∃ a c PW, e = .returned (.slice a rs.length c) ∧ List.length PW = rs.length ∧ (∀ w'', Lko wE.heap.size w.heap.size w' w'' → PlsAt w'' w.heap.size fs a rs PW) ∧ (∃ base gb mb la lc L bs V P Q, Raw wE w w' fs a c rs base gb mb la lc L bs V P Q) else e = .returned (.slice none 0 0)) ∧ Below w.heap.size w w'
/-- The plans in memory, once all facts have come. -/
theorem PLS.at {w : World} {B base gb mb : Nat} {la : Option Addr} {lc : Nat} {L : List AlX} {bs : List Nat} {V : List Value} {Q : List (Value × F)} {fs : List F} {a : Option Addr} {c : Nat} {P : List Px} {rs : List Ru} (h : PLS w B a c P (L.map Prod.fst) bs) (hN : NF w base gb mb la lc L bs V (fun _ => Q)) (hQ : Q.map Prod.snd = fs) (hF : ∀ y ∈ Q, FacAt w y.1 y.2) (hP : PxOf P rs rs.length) (ht : ∀ r ∈ rs, ∀ p ∈ r.pats, p.terms.length ≤ 6) (hf : fs.length ≤ 40) : PlsAt w B fs a rs (P.map fun x => ⟨x.ca, x.cc, x.va, x.vc, x.X.map (cnOf fs)⟩) := by
  intro i r z hi hz
  have hil : i < P.length := by rw [hP.1]; exact (List.getElem?_eq_some_iff.1 hi).1
  obtain ⟨x, hx⟩ : ∃ x, P[i]? = some x := ⟨P[i], by simp [hil]⟩
  obtain ⟨hX, hU⟩ := hP.2 i x r hx hi
  have key := fun j u (hj : (pxCells x)[j]? = some u) => owns_cell h.row (flat_gen (cells := pxCells) (m := 2) (fun _ => rfl) P i x j u hx hj)
  obtain ⟨k, rfl, hkB, h0, _⟩ := key 0 _ rfl
  obtain ⟨k1, e1, _, h1, _⟩ := key 1 _ rfl
  cases e1
  have hpd := h.each x (List.mem_of_getElem? hx)
  have hcap := capP hpd.conds
  rw [hU] at hpd h1
  rw [List.getElem?_map, hx] at hz
  cases hz
  exact ⟨k, 0, rfl, hkB, by simpa using h0, by simpa using h1, hpd.pln hN hQ hF hX (ht r (List.mem_of_getElem? hi)) hf, by simpa using hcap, hpd.vars⟩
set_option maxRecDepth 100000 in
set_option maxHeartbeats 12800000 in
theorem plansOver_any (rs : List Ru) (a : Option Addr) (c : Nat) (fs : List F) (fa : Option Addr) (fc : Nat) {q : Option Nat} (wE w : World) (hE : Below wE.heap.size wE w) (hv : RusAt q w a rs) (hc : rs.length ≤ c) (hle : ListLe Ru.le 1048576 rs) (ho : ∀ x ∈ rs, OpsOk x.exprs) (hvo : ∀ r ∈ rs, ∀ p ∈ r.pats, ∀ t ∈ p.terms, VOk t.val) (hfe : FactsAt wE fa fs) (hfl : fs.length ≤ 1048576) (hfs : ∀ f ∈ fs, Sized f) :
    Calls Tryz.prog 59 #[.slice a rs.length c, .slice fa fs.length fc] w (PoPost rs fs wE w) := by
  have hfa := hfe.below hE
  obtain ⟨kl, K⟩ := KLA.exist
  have HV := hidP hv
  have HLE := hidP hle
  have HVO := hidP hvo
  have HFA := hidP hfa
  have HFE := hidP hfe
  have HE := hidP hE
  have hEs := hE.size
  have HC := hidP (iCheckRules_any a c rs w hv hc hle ho)
  have HGF := hidP (fun w' (hb : Below w.heap.size w w') => goodFacts_any fa fc fs w' (hfa.below hb) hfl hfs)
  clear hv hle hvo hfa hfs ho hfe hE
  unfold ckV at HC
  have hfd : ∀ (p0 p1 p2 : Int) (w : World), (Instr.field 165 (.agg #[.int .i64 p0, .int .i64 p1, .int .i64 p2]) 0).run Tryz.prog w = .ok (.int .i64 p0) w := fun _ _ _ _ => by kernel_rfl
  by_cases hck : (chk rs).1 = 0
  · have h16 := (chk_each hck).1
    have HSM := hidP (fun r (hr : r ∈ rs) => chk_small hck hr)
    have HRD := hidP (show ready rs fs = gFacts fs by unfold ready; rw [decide_eq_true hck]; simp)
    have hcn : ((chk rs).1 != 0) = false := by simpa using hck
    have hcb : ((chk rs).1 == 0) = true := by simpa using hck
    generalize (chk rs).1 = p0 at HC hck hcn hcb
    generalize (chk rs).2.1 = p1 at HC
    generalize (chk rs).2.2 = p2 at HC
    clear hck
    cases hg : gFacts fs
    · have HRF := hidP (show ready rs fs = false by rw [HRD.out, hg])
      rw [hg] at HGF
      clear hg
      go_enter Tryz.func59, Tryz.ntmps59
      go_wp2_with fail
      refine HC.out.mono ?_
      rintro e w1 ⟨rfl, hb1⟩
      have B1 := hidP hb1
      have GF := hidP (HGF.out w1 hb1)
      clear hb1 HC HGF
      go_wp2_with fail
      refine GF.out.mono ?_
      rintro e w2 ⟨rfl, hb2⟩
      have B2 := hidP (B1.out.trans (hb2.mono B1.out.size))
      clear hb2 GF
      go_wp2_with fail
      go_ret
      exact ⟨by rw [HRF.out]; simp, B2.out⟩
    · have HRF := hidP (show ready rs fs = true by rw [HRD.out, hg])
      have hf40 := gFacts_len hg
      rw [hg] at HGF
      clear hg
      go_enter Tryz.func59, Tryz.ntmps59
      go_wp2_with fail
      refine HC.out.mono ?_
      rintro e w1 ⟨rfl, hb1⟩
      have B1 := hidP hb1
      have GF := hidP (HGF.out w1 hb1)
      clear hb1 HC HGF
      go_wp2_with fail
      refine GF.out.mono ?_
      rintro e w2 ⟨rfl, hb2⟩
      have B2 := hidP (B1.out.trans (hb2.mono B1.out.size))
      have hs2 := B2.out.size
      clear hb2 GF B1 hfd hcn hcb
      go_wp2_with fail
      refine (newNodes_any kl w2).mono ?_
      rintro e w3 ⟨rfl, hns3, hb3⟩
      have G3 := hidP hns3
      have B3 := hidP (B2.out.trans (hb3.mono B2.out.size))
      have hs3 := hb3.size
      clear hns3 hb3 B2
      obtain ⟨gb, hgb⟩ : ∃ gb, gb = w2.heap.size + 1 := ⟨_, rfl⟩
      obtain ⟨base, hbs⟩ : ∃ v, v = w2.heap.size := ⟨_, rfl⟩
      rw [← hgb] at G3 ⊢
      rw [← hbs] at G3 hs2 hs3
      have hgbB : base ≤ gb := by omega
      clear hgb hbs
      go_wp2_with fail
      go_loopw [22, 6] (fun iv pv wr => ∃ (k : Nat) (pa : Option Addr) (pc : Nat) (P : List Px) (la : Option Addr) (lc : Nat) (L : List AlX) (bs : List Nat) (D : DataW Unit), iv = .int .i64 (k : Int) ∧ pv = .slice pa P.length pc ∧ k ≤ rs.length ∧ P.length ≤ k ∧ PxOf P rs k ∧ L.length ≤ 6 * k ∧ (∀ x ∈ L, x.1.tests.length ≤ 6) ∧ NS kl wr base gb base la lc L bs D ∧ PLS wr base pa pc P (L.map Prod.fst) bs ∧ Below w.heap.size w wr ∧ base ≤ wr.heap.size) (fun iv _ _ => rs.length - (intOf iv).toNat)
      case atStart => exact ⟨0, none, 0, [], none, 0, [], [], _, rfl, rfl, Nat.zero_le _, Nat.le_refl _, ⟨rfl, fun i x r hx => by simp at hx⟩, Nat.le_refl _, fun x hx => by simp at hx, G3.out, ⟨World.ownsRow_nil _ _ _ _, fun x hx => by simp at hx⟩, B3.out, hs3⟩
      case round =>
        obtain ⟨k, pa, pc, P, la, lc, L, bs, D, rfl, rfl, hkl, hPl, hPx, hLl, hsix, hNS, hPLS, hB, hbw⟩ := hrel
        have PX := hidP hPx
        have SIX := hidP hsix
        have G := hidP hNS
        have PL := hidP hPLS
        have B := hidP hB
        clear hPx hsix hNS hPLS hB G3 B3
        by_cases hk : k < rs.length
        · obtain ⟨r, hr⟩ : ∃ r, rs[k]? = some r := ⟨rs[k], by simp [hk]⟩
          obtain ⟨rb, ro, a_p, c_p, a_e, c_e, a_c, c_c, rfl, _, c0, c1, c2, c3, c4, h_p, _, _, _⟩ := HV.out.get hr
          have d0 := cell_below B.out c0
          have d1 := cell_below B.out c1
          have d2 := cell_below B.out c2
          have d3 := cell_below B.out c3
          have d4 := cell_below B.out c4
          have hrm := List.mem_of_getElem? hr
          obtain ⟨hp6, ht6, _⟩ := HSM.out r hrm
          have HNP := hidP (fun w' (hN : NS kl w' base gb base la lc L bs D) (hA : Below w.heap.size w w') (hb : base ≤ w'.heap.size) => newPlan_any kl K r a_p c_p a_e c_e a_c c_c base gb base la lc L bs D w w' hA hs2 hb h_p hN hp6 ht6 (HLE.out.2 r hrm).2.1.2 (HVO.out r hrm) (by omega) SIX.out)
          have HR := hidP hr
          have z0 : (0 : Int) ≤ (k : Int) := by omega
          have z1 : (k : Int) < (rs.length : Int) := by omega
          clear c0 c1 c2 c3 c4 h_p hr ht6 hrm
          go_upto_region 8 with fail
          refine lift_alloc ?_
          intro w5 hW5 hq5
          have y0 : w5.cell? ⟨wr.heap.size, 0, none⟩ = some (.string r.name) := by simp [World.cell?, hq5]
          have y1 : w5.cell? ⟨wr.heap.size, 1, none⟩ = some (.int .i64 r.sal) := by simp [World.cell?, hq5]
          have y2 : w5.cell? ⟨wr.heap.size, 2, none⟩ = some (.slice a_p r.pats.length c_p) := by simp [World.cell?, hq5]
          have y3 : w5.cell? ⟨wr.heap.size, 3, none⟩ = some (.slice a_e r.exprs.length c_e) := by simp [World.cell?, hq5]
          have y4 : w5.cell? ⟨wr.heap.size, 4, none⟩ = some (.slice a_c r.acts.length c_c) := by simp [World.cell?, hq5]
          have G5 := hidP (G.out.bel hW5)
          have PL5 := hidP (PL.out.bel hW5)
          have B5 := hidP (B.out.trans (hW5.mono B.out.size))
          have hs5 := hW5.size
          have hb5 : base ≤ w5.heap.size := by omega
          clear hW5 hq5 d0 d1 d2 d3 d4 G PL B
          go_wp2_with fail
          refine (HNP.out w5 G5.out B5.out hb5).mono ?_
          rintro e w6 ⟨la', lc', L', bs', D', ca, cc, va, vc, X, rfl, hX, hns, hpd, hfr, _, hex, hexa, hLl', h6⟩
          have hR6 := hidP (hfr.own PL5.out.row G5.out (by decide) (by decide))
          have G6 := hidP hns
          have PD6 := hidP (hpd.lower hb5)
          have FR6 := hidP hfr
          have EX := hidP hex
          have EXA := hidP hexa
          have HX := hidP hX
          have H6 := hidP h6
          have hs6 := hfr.rest.size
          have hB6 : base ≤ w6.heap.size := by omega
          have B6 := hidP (B5.out.trans (hfr.below B5.out.size (Nat.le_trans hs2 G5.out.gbase.1) (Nat.le_trans hs2 G5.out.gbase.2) (fun g hg => Nat.le_trans hs2 (G5.out.row.lt g hg).1)))
          have HW := hidP (fun o => (Below.refl _ _).alloc (Nat.le_refl _) o : ∀ o, Below w6.heap.size w6 (w6.alloc o))
          have TY := hidP (fun o g hg => own_type (own_bel hR6.out (HW.out o)) (k := g) hg)
          clear hX hns hpd hfr hex hexa h6 y0 y1 y2 y3 y4 HNP
          go_wp2_with (first | (at_builtin; refine wpList_append_any (by rfl) (.tmp 26) (.tmp 30) 113 (by rfl) base 88 _ 2 48 Tryz.underlying113 infoPx (by rfl) (by omega) _ P.length _ (by rfl) (own_bel hR6.out (HW.out _)) (some ⟨_, 0, none⟩) 1 1 (by rfl) (pxCells ⟨ca, cc, va, vc, X, varsGo r.pats [] 0⟩) (by rfl) (fun e => by cases e) (news_new _ _ _ _ (by first | rfl | simp)) (px_one _) (by unfold maxLen; omega) (by omega) (Nat.le_trans hB6 (HW.out _).size) ?_; intro a7 c7 w7 ho7 hg7 hl7) | fail)
          have PL7 := hidP (PL5.out.push (x := ⟨ca, cc, va, vc, X, varsGo r.pats [] 0⟩) G5.out FR6.out EX.out EXA.out PD6.out hg7.out ho7.out)
          have G7 := hidP ((G6.out.bel (HW.out _)).grown hg7.out (TY.out _) (by unfold NTy; decide))
          have hs7 := hg7.out.size
          simp at hs7
          have B7 := hidP ((B6.out.trans ((HW.out _).mono B6.out.size)).grown hg7.out (Nat.le_trans B6.out.size (HW.out _).size) (fun g hg => Nat.le_trans hs2 (hR6.out.lt g hg).1))
          have PX7 := hidP (PX.out.snoc (x := ⟨ca, cc, va, vc, X, varsGo r.pats [] 0⟩) HR.out HX.out rfl)
          clear hl7
          go_roundw
          case rel => exact ⟨k + 1, a7, c7, P ++ [⟨ca, cc, va, vc, X, varsGo r.pats [] 0⟩], la', lc', L', bs', D', by go_num, by simp, by omega, by simp; omega, PX7.out, by omega, H6.out, G7.out, PL7.out, B7.out, by omega⟩
          case measure => (simp [intOf]; omega)
        · have hke : k = rs.length := by omega
          subst hke
          have hy : ¬ (rs.length : Int) < (rs.length : Int) := by omega
          have NF0 := hidP (NF.ofNS G.out)
          obtain ⟨wQ, hwQ⟩ : ∃ v, v = wr := ⟨wr, rfl⟩
          rw [← hwQ] at NF0 PL B hbw ⊢
          clear G hwQ
          go_wp2_with fail
          go_loopw [35] (fun iv wr => ∃ (k : Nat) (V : List Value), iv = .int .i64 (k : Int) ∧ k ≤ fs.length ∧ NF wr base gb base la lc L bs V (fun _ => qUp fa fs k) ∧ FrT base wQ wr) (fun iv _ => fs.length - (intOf iv).toNat)
          case atStart => exact ⟨0, _, rfl, Nat.zero_le _, NF0.out, FrT.refl _ _⟩
          case round =>
            obtain ⟨j, V, rfl, hjl, hNF, hFT⟩ := hrel
            have NR := hidP hNF
            have FT := hidP hFT
            have AR := hidP (B.out.trans (hFT.rest.mono hs2))
            have hsr := hFT.rest.size
            have hbr : base ≤ wr.heap.size := by omega
            clear hNF hFT NF0
            by_cases hj : j < fs.length
            · obtain ⟨f, hf⟩ : ∃ f, fs[j]? = some f := ⟨fs[j], by simp [hj]⟩
              obtain ⟨fb, fo, rfl, c0, c1, sa, sc, c2, hsv⟩ := HFA.out j f hf
              have hql := qUp_len (some ⟨fb, fo, none⟩) fs j
              have HAD := hidP (nodesAdd_any base gb base la lc L bs V (qUp (some ⟨fb, fo, none⟩) fs j) (.pointer (some ⟨fb, fo + j * 3, none⟩)) f w wr AR.out hs2 ⟨fb, fo + j * 3, rfl, c0, c1, sa, sc, c2, hsv⟩ NR.out hbr (by omega) (by omega) (fun x hx => Nat.le_trans (SIX.out x hx) (by decide)))
              have HQ := hidP (qUp_succ (b := fb) (o := fo) hf)
              have z0 : (0 : Int) ≤ (j : Int) := by omega
              have z1 : (j : Int) < (fs.length : Int) := by omega
              clear hf c0 c1 c2 hsv
              go_wp2_with fail
              refine HAD.out.mono ?_
              rintro e w8 ⟨rfl, ⟨V', hN8⟩, hF8⟩
              have N8 := hidP hN8
              have F8 := hidP (FT.out.trans hF8)
              clear hN8 hF8 HAD
              go_wp2_with fail
              go_roundw
              case rel => exact ⟨j + 1, V', by go_num, by omega, by rw [HQ.out]; exact N8.out, F8.out⟩
              case measure => (simp [intOf]; omega)
            · have hje : j = fs.length := by omega
              subst hje
              have hy2 : ¬ (fs.length : Int) < (fs.length : Int) := by omega
              go_wp2_with fail
              go_ret
              obtain ⟨q1, q2⟩ := qUp_all HFE.out fs.length (Nat.le_refl _)
              rw [List.take_length] at q1
              refine ⟨?_, AR.out⟩
              rw [HRF.out, if_pos rfl]
              refine ⟨pa, pc, P.map (fun x => (⟨x.ca, x.cc, x.va, x.vc, x.X.map (cnOf fs)⟩ : Pw)), by rw [PX.out.1]; rfl, by rw [List.length_map, PX.out.1], fun w'' hlk => ?_, base, gb, base, la, lc, L, bs, V, P, _, ⟨PX.out, hs2, fun w'' hlk => ⟨(PL.out.ft FT.out).lk hlk hs2, NR.out.lk hlk hs2 (Nat.le_trans hs2 hgbB)⟩, q1, q2⟩⟩
              have ARE : Below wE.heap.size wE wr := HE.out.trans (AR.out.mono hEs)
              exact (((PL.out.ft FT.out).lk hlk hs2).at (NR.out.lk hlk hs2 (Nat.le_trans hs2 hgbB)) q1 (fun y hy => (q2 y hy).below (Lko.below ARE (by omega) hlk)) PX.out (fun r hr => (HSM.out r hr).2.1) hf40).lower hs2
  · have HRF := hidP (show ready rs fs = false by unfold ready; rw [decide_eq_false hck]; simp)
    have hcn : ((chk rs).1 != 0) = true := by simpa using hck
    have hcb : ((chk rs).1 == 0) = false := by simpa using hck
    generalize (chk rs).1 = p0 at HC hck hcn hcb
    generalize (chk rs).2.1 = p1 at HC
    generalize (chk rs).2.2 = p2 at HC
    clear hck
    go_enter Tryz.func59, Tryz.ntmps59
    go_wp2_with fail
    refine HC.out.mono ?_
    rintro e w1 ⟨rfl, hb1⟩
    have B1 := hidP hb1
    clear hb1 HC
    go_wp2_with fail
    go_ret
    exact ⟨by rw [HRF.out]; simp, B1.out⟩
end Go.Proofs.YtognpkdgphebeaaGreat
