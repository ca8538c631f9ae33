/-
  OUR OWN TEXT. The model's AlphaNet.
-/
import Derived.Test.YtgamdkokmkagaaaGreatAn2m
import Derived.Test.YtgamdkokmkagaaaGreatQg
import Derived.Test.YtgamdkokmkagaaaGreatAo3m
import Derived.Test.YtgamdkokmkagaaaGreatJf
import Derived.Deep.DeepCutAuto
namespace Go.Proofs.YtgamdkokmkagaaaGreat
open Go.RowKit
attribute [local go_sem ↓] Go.wp_at_zero Go.wp_at_succ

def netOf (rs : List Ru) : Nt := if (chk rs).1 = 0 then ⟨(netA [] rs).1, (netA [] rs).2⟩ else ⟨[], []⟩
theorem lift_nb0 {P : World → Prop} {w : World} {b : Nat} {v0 v1 y : Value} (h0 : NB w b v0 v1) (h : ∀ wt, NB wt b y v1 → Turned w wt b → P wt) : P (w.setCell ⟨b, 0, none⟩ y) := h _ (h0.set0 y) (Turned.setCells [y] 0 w b)
theorem lift_nb1 {P : World → Prop} {w : World} {b : Nat} {v0 v1 y : Value} (h0 : NB w b v0 v1) (h : ∀ wt, NB wt b v0 y → Turned w wt b → P wt) : P (w.setCell ⟨b, 1, none⟩ y) := h _ (h0.set1 y) (Turned.setCells [y] 1 w b)
theorem own_turned {w w' : World} {base b : Nat} {e t : TypeId} {m : Nat} {v : Value} {n : Nat} {xs : List Value} {c : Array Value} {fr : Nat × Nat} (h : w.ownsRow base e m v n xs) (hb : w.heap[b]? = some (.cells c t fr)) (ht : Turned w w' b) (hne : t ≠ e) : w'.ownsRow base e m v n xs :=
  owns_of_block h fun k hk => ht.block k (fun e => by
    obtain ⟨c', hc'⟩ := own_type h hk
    subst e
    exact own_far hb hc' hne)
theorem AO.turned {w w' : World} {base b : Nat} {a : Option Addr} {c' : Nat} {L : List AlX} {v0 v1 : Value} (h : AO w base a c' L) (hb : NB w b v0 v1) (ht : Turned w w' b) : AO w' base a c' L := ⟨own_turned h.1 hb ht (by decide), fun x hx => ⟨(h.2 x hx).1, own_turned (h.2 x hx).2 hb ht (by decide)⟩⟩
theorem OLL.turned {w w' : World} {base b : Nat} {v : Value} {n : Nat} {xss : List (List Int)} {vs : List Value} {v0 v1 : Value} (h : OLL w base v n xss vs) (hb : NB w b v0 v1) (ht : Turned w w' b) : OLL w' base v n xss vs :=
  h.kept fun g hgi => ht.block g (fun e => by
    subst e
    rcases h.inType hgi with ⟨c', hc'⟩ | ⟨c', hc'⟩
    · exact own_far hb hc' (by decide)
    · exact own_far hb hc' (by decide))
theorem NB.turned {w w' : World} {b d : Nat} {v0 v1 : Value} (h : NB w b v0 v1) (ht : Turned w w' d) (hne : b ≠ d) : NB w' b v0 v1 := (ht.block b hne).trans h
theorem icells_snoc (xs : List Int) (x : Int) : icells (xs ++ [x]) = icells xs ++ [.int .i64 x] := by simp [icells]
theorem alCells_one (x : AlX) (h : ∃ a n c, x.2 = .slice a n c) : ∀ u ∈ alCells x, u.oneCell' = true := by
  intro u hu
  obtain ⟨a, n, c, h⟩ := h
  simp [alCells] at hu
  rcases hu with rfl | rfl | rfl
  · rfl
  · rfl
  · rw [h]; rfl
theorem cells3N {w : World} {b : Nat} {ty : TypeId} {x0 x1 x2 : Value} (h : w.heap[b]? = some (.cells #[x0, x1, x2] ty (0, 0))) : w.cell? ⟨b, 0, none⟩ = some x0 ∧ w.cell? ⟨b, 1, none⟩ = some x1 ∧ w.cell? ⟨b, 2, none⟩ = some x2 := by
  refine ⟨?_, ?_, ?_⟩ <;> simp [World.cell?, h]
/-- What the model's AlphaNet leaves. -/
def SNet (rs : List Ru) (w : World) (e : Ending) (w' : World) : Prop := (∃ aa ac oa oc, e = .returned (.agg #[.slice aa (netOf rs).als.length ac, .slice oa (netOf rs).of.length oc]) ∧ AlsAt none w' aa (netOf rs).als ∧ IlsAt none w' oa (netOf rs).of) ∧ Below w.heap.size w w'
set_option maxRecDepth 100000 in
set_option maxHeartbeats 12800000 in
theorem sAlphaNet_any (rs : List Ru) (a : Option Addr) (c : Nat) {q : Option Nat} (w : World) (hv : RusAt q w a rs) (hc : rs.length ≤ c) (hle : ListLe Ru.le 1048576 rs) (ho : ∀ x ∈ rs, OpsOk x.exprs) :
    Calls Tryz.prog 5 #[.slice a rs.length c] w (SNet rs w) := by
  have HV := hidN1 hv
  have HLE := hidN1 hle
  have HOP := hidN1 ho
  have HA := hidN1 (fun o => (Below.refl _ _).alloc (Nat.le_refl _) o : ∀ o, Below w.heap.size w (w.alloc o))
  clear hv hle ho
  by_cases hck : (chk rs).1 = 0
  rotate_left
  · have HN : Hid (netOf rs = ⟨[], []⟩) := if_neg hck
    have HD := hidN1 (decide_eq_false hck)
    clear hck
    go_enter Tryz.func5, Tryz.ntmps5
    go_wp2_with fail
    refine (l2Checked_anyN rs a c _ (HV.out.below (HA.out _)) hc HLE.out HOP.out).mono ?_
    rintro e w1 ⟨rfl, hb1⟩
    rw [HD.out]
    have T1 := hidN1 (NB.bel (show NB (w.alloc _) w.heap.size (.slice none 0 0) (.slice none 0 0) from heap_alloc_new _ _) hb1)
    have B1 := hidN1 ((HA.out _).trans (hb1.mono (HA.out _).size))
    obtain ⟨⟨t0, t1⟩, z, _⟩ := T1.out.facts
    have z0 := z 0
    have z1 := z 1
    clear z hb1
    go_wp2_with fail
    refine bodyPost_ret (v := .agg #[.slice none 0 0, .slice none 0 0]) (by simp [results, Tryz.results5, go_sem, t0, t1]) rfl ⟨⟨none, 0, none, 0, by rw [HN.out]; rfl, by rw [HN.out]; exact RowsAt.nil, by rw [HN.out]; exact RowsAt.nil⟩, ?_⟩
    exact (B1.out.setCell (Nat.le_refl _) _).setCell (Nat.le_refl _) _
  have HN : Hid (netOf rs = ⟨(netA [] rs).1, (netA [] rs).2⟩) := if_pos hck
  have HD := hidN1 (decide_eq_true hck)
  have h16 := (chk_each hck).1
  have HSM := hidN1 (fun r (hr : r ∈ rs) => chk_small hck hr)
  clear hck
  go_enter Tryz.func5, Tryz.ntmps5
  go_wp2_with fail
  refine (l2Checked_anyN rs a c _ (HV.out.below (HA.out _)) hc HLE.out HOP.out).mono ?_
  rintro e w1 ⟨rfl, hb1⟩
  rw [HD.out]
  have T1 := hidN1 (NB.bel (show NB (w.alloc _) w.heap.size (.slice none 0 0) (.slice none 0 0) from heap_alloc_new _ _) hb1)
  have B1 := hidN1 ((HA.out _).trans (hb1.mono (HA.out _).size))
  have hs1 : w.heap.size < w1.heap.size := T1.out.facts.2.2
  clear hb1 HA HD HOP
  go_upto_region 4 with fail
  refine lift_alloc ?_
  intro w2 hW2 hq2
  obtain ⟨nb, hnb⟩ : ∃ nb, nb = w1.heap.size := ⟨_, rfl⟩
  rw [← hnb] at hq2 ⊢
  have N2 := hidN1 (show NB w2 nb (.slice none 0 0) (.slice none 0 0) from hq2)
  have T2 := hidN1 (T1.out.bel hW2)
  have B2 := hidN1 (B1.out.trans (hW2.mono B1.out.size))
  have hnbw : w.heap.size < nb := by omega
  have hnb2 : nb < w2.heap.size := N2.out.facts.2.2
  clear hW2 hq2 hnb T1 B1 hs1
  go_wp2_with fail
  go_loopw [18] (fun iv wr => ∃ (k : Nat) (aa : Option Addr) (ac : Nat) (L : List AlX) (oa : Option Addr) (oc : Nat) (vs : List Value), iv = .int .i64 (k : Int) ∧ k ≤ rs.length ∧ L.map Prod.fst = (netA [] (rs.take k)).1 ∧ NB wr nb (.slice aa L.length ac) (.slice oa k oc) ∧ AO wr w2.heap.size aa ac L ∧ OLL wr w2.heap.size (.slice oa k oc) k (netA [] (rs.take k)).2 vs ∧ NB wr w.heap.size (.slice none 0 0) (.slice none 0 0) ∧ Below w.heap.size w wr ∧ w2.heap.size ≤ wr.heap.size) (fun iv _ => rs.length - (intOf iv).toNat)
  case atStart => exact ⟨0, none, 0, [], none, 0, [], rfl, Nat.zero_le _, rfl, N2.out, AO.nil _ _, OLL.nil _ _, T2.out, B2.out, Nat.le_refl _⟩
  case round =>
    obtain ⟨k, aa, ac, L, oa, oc, vs, rfl, hkl, hL, hN, hAO, hOL, hT, hB, hwr⟩ := hrel
    have HL := hidN1 hL
    have N := hidN1 hN
    have AOr := hidN1 hAO
    have OL := hidN1 hOL
    have T := hidN1 hT
    have B := hidN1 hB
    have hLb : L.length ≤ 96 := by
      have h1 := netA_grow (rs.take k) [] (fun r hr => (HSM.out r (List.mem_of_mem_take hr)).1)
      have h2 := congrArg List.length hL
      simp at h1 h2
      omega
    clear hL hN hAO hOL hT hB N2 T2 B2
    by_cases hk : k < rs.length
    · obtain ⟨r, hr⟩ : ∃ r, rs[k]? = some r := ⟨rs[k], by simp [hk]⟩
      obtain ⟨b, o, a_p, c_p, a_e, c_e, a_c, c_c, rfl, _, c0, c1, c2, c3, c4, h_p, _, _, _⟩ := HV.out.get hr
      have d0 := cell_below B.out c0
      have d1 := cell_below B.out c1
      have d2 := cell_below B.out c2
      have d3 := cell_below B.out c3
      have d4 := cell_below B.out c4
      obtain ⟨hp6, ht6, _⟩ := HSM.out r (List.mem_of_getElem? hr)
      have HT6 := hidN1 ht6
      have HP := hidN1 h_p
      have HRL := hidN1 (HLE.out.2 r (List.mem_of_getElem? hr))
      have HNS := hidN1 (show netA [] (rs.take (k + 1)) = ((rowA (netA [] (rs.take k)).1 r.pats).1, (netA [] (rs.take k)).2 ++ [(rowA (netA [] (rs.take k)).1 r.pats).2]) by rw [List.take_add_one, hr]; exact netA_snoc r _ [])
      have HND := hidN1 (netA_nodup (rs.take k) (A := []) List.nodup_nil)
      have HFA := hidN1 (netA_from (rs.take k) (A := []) (fun x hx => by simp at hx))
      have z0 : (0 : Int) ≤ (k : Int) := by omega
      have z1 : (k : Int) < (rs.length : Int) := by omega
      generalize (netA [] (rs.take k)).1 = A at HL OL HNS HND HFA
      generalize (netA [] (rs.take k)).2 = XS at OL HNS
      clear c0 c1 c2 c3 c4 h_p ht6 hr
      go_upto_region 7 with fail
      refine lift_alloc ?_
      intro w3 hW3 hq3
      have f2 : w3.cell? ⟨wr.heap.size, 2, none⟩ = some (.slice a_p r.pats.length c_p) := by simp [World.cell?, hq3]
      have N3 := hidN1 (N.out.bel hW3)
      have A3 := hidN1 (AOr.out.bel hW3)
      have O3 := hidN1 (OL.out.below hW3)
      have T3 := hidN1 (T.out.bel hW3)
      have B3 := hidN1 (B.out.trans (hW3.mono B.out.size))
      have hs3 := hW3.size
      have LOW := hidN1 (fun g (hg : InLL (.slice oa k oc) vs g) => (O3.out.range hg).2)
      clear hW3 hq3 d0 d1 d2 d3 d4 N AOr OL T B
      go_wp2_with fail
      clear f2
      go_loopw [25, 6] (fun jv ov wq => ∃ (j : Nat) (fa : Option Addr) (fc : Nat) (aa2 : Option Addr) (ac2 : Nat) (L2 : List AlX), jv = .int .i64 (j : Int) ∧ j ≤ r.pats.length ∧ ov = .slice fa j fc ∧ L2.map Prod.fst = (rowA A (r.pats.take j)).1 ∧ wq.ownsRow w3.heap.size 3 1 (.slice fa j fc) j (icells (rowA A (r.pats.take j)).2) ∧ NB wq nb (.slice aa2 L2.length ac2) (.slice oa k oc) ∧ AO wq w2.heap.size aa2 ac2 L2 ∧ OLL wq w2.heap.size (.slice oa k oc) k XS vs ∧ NB wq w.heap.size (.slice none 0 0) (.slice none 0 0) ∧ Below w.heap.size w wq ∧ w3.heap.size ≤ wq.heap.size) (fun jv _ _ => r.pats.length - (intOf jv).toNat)
      case atStart => exact ⟨0, none, 0, aa, ac, L, rfl, Nat.zero_le _, rfl, HL.out, World.ownsRow_nil _ _ _ _, N3.out, A3.out, O3.out, T3.out, B3.out, Nat.le_refl _⟩
      case round =>
        obtain ⟨j, fa, fc, aa2, ac2, L2, rfl, hjl, rfl, hL2, hF, hN, hAO, hOL, hT, hB, hwq⟩ := hrel
        obtain ⟨wq, rfl⟩ : ∃ v, v = wr := ⟨wr, rfl⟩
        have HL2 := hidN1 hL2
        have Fq := hidN1 hF
        have Nq := hidN1 hN
        have Aq := hidN1 hAO
        have Oq := hidN1 hOL
        have Tq := hidN1 hT
        have Bq := hidN1 hB
        have hL2b : L2.length ≤ 102 := by
          have h1 := rowA_grow (r.pats.take j) A
          have h2 := congrArg List.length hL2
          have h3 := congrArg List.length HL.out
          simp at h1 h2 h3
          omega
        clear hL2 hF hN hAO hOL hT hB N3 A3 O3 T3 B3
        by_cases hj : j < r.pats.length
        · obtain ⟨p, hp⟩ : ∃ p, r.pats[j]? = some p := ⟨r.pats[j], by simp [hj]⟩
          obtain ⟨pb, po, a_t, c_t, rfl, _, d0, d1, d2, h_t, _⟩ := HP.out.getC hp
          have e0 := cell_below Bq.out d0
          have e1 := cell_below Bq.out d1
          have e2 := cell_below Bq.out d2
          have HTM := hidN1 h_t
          have hpm := List.mem_of_getElem? hp
          have ht6 := HT6.out p hpm
          have HPL := hidN1 (HRL.out.2.1.2 p hpm)
          have HRS := hidN1 (show rowA A (r.pats.take (j + 1)) = (addA (rowA A (r.pats.take j)).1 (alphaOf p), (rowA A (r.pats.take j)).2 ++ [((seekA (alphaOf p) (rowA A (r.pats.take j)).1 : Nat) : Int)]) by rw [List.take_add_one, hp]; exact rowA_snoc p _ A)
          have HF2 := hidN1 (show ∀ x ∈ L2.map Prod.fst, x.tests.length ≤ 6 by intro x hx; rw [HL2.out] at hx; obtain ⟨p', e'⟩ := rowA_from _ HFA.out x hx; rw [e']; exact alphaOf_len p')
          have HND2 := hidN1 (show (L2.map Prod.fst).Nodup by rw [HL2.out]; exact rowA_nodup _ HND.out)
          have z0 : (0 : Int) ≤ (j : Int) := by omega
          have z1 : (j : Int) < (r.pats.length : Int) := by omega
          rw [← HL2.out] at HRS
          generalize (rowA A (r.pats.take j)).2 = FSo at Fq HRS
          clear d0 d1 d2 h_t hp hpm HL2
          go_upto_region 11 with fail
          refine lift_alloc ?_
          intro w4 hW4 hq4
          obtain ⟨f0, f1, f2⟩ := cells3N hq4
          have N4 := hidN1 (Nq.out.bel hW4)
          have A4 := hidN1 (Aq.out.bel hW4)
          have O4 := hidN1 (Oq.out.below hW4)
          have T4 := hidN1 (Tq.out.bel hW4)
          have F4 := hidN1 (own_bel Fq.out hW4)
          have B4 := hidN1 (Bq.out.trans (hW4.mono Bq.out.size))
          have hs4 := hW4.size
          clear hW4 hq4 e0 e1 e2 Nq Aq Oq Tq Fq Bq
          go_wp2_with fail
          refine (sAlphaOf_any p a_t c_t w4 (HTM.out.below B4.out) (Nat.le_trans HPL.out.1 (by decide)) ⟨Nat.le_trans HPL.out.2.1 (by decide), fun t ht => ⟨Nat.le_trans (HPL.out.2.2 t ht).1 (by decide), Nat.le_trans (HPL.out.2.2 t ht).2 (by decide)⟩⟩ HPL.out.2.1).mono ?_
          rintro e w5 ⟨⟨a5, c5, rfl, ho5⟩, hb5⟩
          obtain ⟨X, hX⟩ : ∃ X, X = alphaOf p := ⟨_, rfl⟩
          have hX6 : X.tests.length ≤ 6 := by rw [hX]; exact alphaOf_len p
          rw [← hX] at ho5 HRS ⊢
          have N5 := hidN1 (N4.out.bel hb5)
          have A5 := hidN1 (A4.out.bel hb5)
          have O5 := hidN1 (O4.out.below hb5)
          have T5 := hidN1 (T4.out.bel hb5)
          have F5 := hidN1 (own_bel F4.out hb5)
          have B5 := hidN1 (B4.out.trans (hb5.mono B4.out.size))
          have hs5 := hb5.size
          have X5 := hidN1 (owns_base ho5 (show w2.heap.size ≤ w4.heap.size by omega))
          clear hX ho5 hb5 f0 f1 f2 N4 A4 O4 T4 F4 B4 HTM HPL
          go_upto_region 12 with fail
          refine lift_alloc ?_
          intro w6 hW6 hq6
          obtain ⟨g0, g1, g2⟩ := cells3N hq6
          have N6 := hidN1 (N5.out.bel hW6)
          have A6 := hidN1 (A5.out.bel hW6)
          have O6 := hidN1 (O5.out.below hW6)
          have T6 := hidN1 (T5.out.bel hW6)
          have F6 := hidN1 (own_bel F5.out hW6)
          have X6 := hidN1 (own_bel X5.out hW6)
          have B6 := hidN1 (B5.out.trans (hW6.mono B5.out.size))
          have hs6 := hW6.size
          obtain ⟨⟨n0, _⟩, _, _⟩ := N6.out.facts
          clear hW6 hq6 N5 A5 O5 T5 F5 X5 B5
          go_wp2_with fail
          go_loopw [34, 10] (fun kv av wl => ∃ m : Nat, kv = .int .i64 (m : Int) ∧ m ≤ L2.length ∧ av = .int .i64 (lastA X (L2.map Prod.fst) m) ∧ Below w6.heap.size w6 wl) (fun kv _ _ => L2.length - (intOf kv).toNat)
          case atStart => exact ⟨0, rfl, Nat.zero_le _, by rw [lastA_zero], Below.refl _ _⟩
          case round =>
            obtain ⟨m, rfl, hml, rfl, hbl⟩ := hrel
            obtain ⟨wl, rfl⟩ : ∃ v, v = wr := ⟨wr, rfl⟩
            have n0l := cell_below hbl n0
            have g0l := cell_below hbl g0
            have g1l := cell_below hbl g1
            have g2l := cell_below hbl g2
            by_cases hm : m < L2.length
            · obtain ⟨y, hy⟩ : ∃ y, L2[m]? = some y := ⟨L2[m], by simp [hm]⟩
              obtain ⟨yk, rfl, hykl, y0, y1, y2⟩ := al_at A6.out hy
              obtain ⟨⟨ya, yc, hys⟩, hyo⟩ := A6.out.2 y (List.mem_of_getElem? hy)
              rw [hys] at y2 hyo
              have y0l := cell_below hbl y0
              have y1l := cell_below hbl y1
              have y2l := cell_below hbl y2
              have hyA : (L2.map Prod.fst)[m]? = some y.1 := by rw [List.getElem?_map, hy]; rfl
              have HYES := hidN1 (fun h => lastA_yes (x := X) HND2.out hyA h)
              have HNO := hidN1 (fun h => lastA_no (x := X) hyA h)
              have hy6 : y.1.tests.length ≤ 6 := HF2.out _ (List.mem_of_getElem? hyA)
              have HS := hidN1 (fun w' (hb : Below wl.heap.size wl w') => l3Same_any y.1 X ya a5 yc c5 w' (TtsAt.owns (own_bel hyo (hbl.trans (hb.mono hbl.size)))) (TtsAt.owns (own_bel X6.out (hbl.trans (hb.mono hbl.size)))) hy6)
              have q0 : (0 : Int) ≤ (m : Int) := by omega
              have q1 : (m : Int) < (L2.length : Int) := by omega
              have hDR := hidN1 ((Below.refl wl.heap.size wl).drew)
              clear hyo hys y0 y1 y2 n0 g0 g1 g2 hy hyA
              cases hs : sameA y.1 X
              all_goals
                go_wp2_with fail
                go_region_held3 (fun w' => w'.cell? ⟨nb, 0, none⟩ = some (.slice (some ⟨yk, 0, none⟩) L2.length ac2) ∧ w'.cell? ⟨yk, m * 3, none⟩ = some (.string y.1.cls) ∧ w'.cell? ⟨yk, m * 3 + 1, none⟩ = some (.int .i64 y.1.arity) ∧ w'.cell? ⟨yk, m * 3 + 2, none⟩ = some (.slice ya y.1.tests.length yc) ∧ w'.cell? ⟨w5.heap.size, 0, none⟩ = some (.string X.cls) ∧ w'.cell? ⟨w5.heap.size, 1, none⟩ = some (.int .i64 X.arity) ∧ w'.cell? ⟨w5.heap.size, 2, none⟩ = some (.slice a5 X.tests.length c5)) (first | exact ⟨n0l, y0l, y1l, y2l, g0l, g1l, g2l⟩ | exact ⟨cell_below hb7 n0l, cell_below hb7 y0l, cell_below hb7 y1l, cell_below hb7 y2l, cell_below hb7 g0l, cell_below hb7 g1l, cell_below hb7 g2l⟩) ((go_at_call 16; refine (HS.out _ hDR.out).mono ?_; rintro e w7 ⟨rfl, hb7'⟩; have hb7 : Below wl.heap.size wl w7 := hDR.out.trans hb7'; rw [hs]))
                go_wp2_with fail
                go_roundw
                case rel => exact ⟨m + 1, by go_num, by omega, by first | rw [HYES.out hs] | rw [HNO.out hs], hbl.trans (hb7.mono hbl.size)⟩
                case measure => (simp [intOf]; omega)
            · have hme : m = L2.length := by omega
              subst hme
              have HW := hidN1 (fun o => (Below.refl _ _).alloc (Nat.le_refl _) o : ∀ o, Below wl.heap.size wl (wl.alloc o))
              have N7 := hidN1 (N6.out.bel hbl)
              have A7 := hidN1 (A6.out.bel hbl)
              have O7 := hidN1 (O6.out.below hbl)
              have T7 := hidN1 (T6.out.bel hbl)
              have F7 := hidN1 (own_bel F6.out hbl)
              have X7 := hidN1 (own_bel X6.out hbl)
              have B7 := hidN1 (B6.out.trans (hbl.mono B6.out.size))
              have hs7 := hbl.size
              have hq1 : ¬ (L2.length : Int) < (L2.length : Int) := by omega
              have hAL : (L2.map Prod.fst).length = L2.length := by simp
              have HLA := hidN1 (lastA_end X (L2.map Prod.fst))
              rw [hAL] at HLA
              clear n0 g0 g1 g2 hbl N6 A6 O6 T6 F6 X6 B6
              by_cases hin : seekA X (L2.map Prod.fst) < L2.length
              · obtain ⟨sk, hsk⟩ : ∃ sk, sk = seekA X (L2.map Prod.fst) := ⟨_, rfl⟩
                have hat : lastA X (L2.map Prod.fst) L2.length = (sk : Int) := by rw [HLA.out, if_pos hin, hsk]
                have HR := hidN1 (show rowA A (r.pats.take (j + 1)) = (L2.map Prod.fst, FSo ++ [(sk : Int)]) by rw [HRS.out, addA_has (by rw [hAL]; exact hin), hsk])
                rw [hat]
                have hsn : ¬ (sk : Int) < 0 := by omega
                have TY := hidN1 (fun o k hk => own_type (own_bel F7.out (HW.out o)) (k := k) hk)
                clear hat hin hsk hAL HLA
                go_wp2_with (first | (at_builtin; refine wpList_append_any (by rfl) (.tmp 57) (.tmp 59) 48 (by rfl) w3.heap.size 3 _ 1 8 Tryz.underlying48 infoIF (by rfl) (by omega) _ j _ (by rfl) (own_bel F7.out (HW.out _)) (some ⟨_, 0, none⟩) 1 1 (by rfl) [.int .i64 (sk : Int)] (by rfl) (fun e => by cases e) (news_new _ _ _ _ (by simp)) (by intro u hu; simp at hu; subst hu; rfl) (by unfold maxLen; omega) (by omega) (by simp; omega) ?_; intro a8 c8 w8 ho8 hg8 hl8) | fail)
                have hs8 := hg8.out.size
                simp at hs8
                go_roundw
                case rel =>
                  refine ⟨j + 1, a8, c8, aa2, ac2, L2, by go_num, by omega, rfl, by rw [HR.out], by rw [HR.out, icells_snoc]; exact ho8.out, (N7.out.bel (HW.out _)).grown hg8.out (TY.out _) (by decide), (A7.out.bel (HW.out _)).grown hg8.out (TY.out _) (by decide) (by decide), (O7.out.below (HW.out _)).grownHi hg8.out (fun k hk => (F7.out.lt k hk).1) LOW.out, (T7.out.bel (HW.out _)).grown hg8.out (TY.out _) (by decide), (B7.out.trans ((HW.out _).mono B7.out.size)).grown hg8.out (by simp; omega) (fun k hk => by have := (F7.out.lt k hk).1; omega), by omega⟩
                case measure => (simp [intOf]; omega)
              · have hat : lastA X (L2.map Prod.fst) L2.length = -1 := by rw [HLA.out, if_neg hin]
                have HR := hidN1 (show rowA A (r.pats.take (j + 1)) = (L2.map Prod.fst ++ [X], FSo ++ [(L2.length : Int)]) by rw [HRS.out, addA_new (by rw [hAL]; exact hin), seekA_new (by rw [hAL]; exact hin), hAL])
                rw [hat]
                have TY := hidN1 (fun o k hk => own_type (own_bel A7.out.1 (HW.out o)) (k := k) hk)
                clear hat hin hAL HLA
                go_upto_region 22 with (first | (at_builtin; refine wpList_append_any (by rfl) (.tmp 52) (.tmp 54) 24 (by rfl) w2.heap.size 54 _ 3 48 Tryz.underlying24 infoAlF (by rfl) (by omega) _ L2.length _ (by rfl) (own_bel A7.out.1 (HW.out _)) (some ⟨_, 0, none⟩) 1 1 (by rfl) (alCells (X, .slice a5 X.tests.length c5)) (by rfl) (fun e => by cases e) (news_new _ _ _ _ (by simp)) (alCells_one _ ⟨_, _, _, rfl⟩) (by unfold maxLen; omega) (by omega) (by simp; omega) ?_; intro a8 c8 w8 ho8 hg8 hl8; have N8 := hidN1 ((N7.out.bel (HW.out _)).grown hg8.out (TY.out _) (by decide)); obtain ⟨⟨n0', n1'⟩, z', _⟩ := N8.out.facts; have z0' := z' 0; clear z') | fail)
                refine lift_nb0 N8.out ?_
                intro w9 hN9 ht9
                have N9 := hidN1 (show NB w9 nb (.slice a8 (L2 ++ [((X, .slice a5 X.tests.length c5) : AlX)]).length c8) (.slice oa k oc) by simpa using hN9)
                have A9 := hidN1 (AO.turned (AO.snoc (x := (X, .slice a5 X.tests.length c5)) (A7.out.bel (HW.out _)) ⟨⟨a5, c5, rfl⟩, own_bel X7.out (HW.out _)⟩ ho8.out hg8.out) N8.out ht9)
                have O9 := hidN1 (((O7.out.below (HW.out _)).grownT hg8.out (TY.out _) (by decide) (by decide)).turned N8.out ht9)
                have T9 := hidN1 (((T7.out.bel (HW.out _)).grown hg8.out (TY.out _) (by decide)).turned ht9 (by omega))
                have F9 := hidN1 (own_turned (own_grown (own_bel F7.out (HW.out _)) hg8.out (TY.out _) (by decide)) N8.out ht9 (by decide))
                have B9 := hidN1 (((B7.out.trans ((HW.out _).mono B7.out.size)).grown hg8.out (by simp; omega) (fun k hk => by have := (A7.out.1.lt k hk).1; omega)).trans (ht9.below (by omega)))
                have hs8 := hg8.out.size
                simp at hs8
                have hs9 : w8.heap.size ≤ w9.heap.size := Nat.le_of_eq ht9.size.symm
                clear hN9 ht9 n0' n1' z0' N8 ho8 hg8 hl8 N7 A7 O7 T7 F7 X7 B7 n0l g0l g1l g2l HW TY
                have HW := hidN1 (fun o => (Below.refl _ _).alloc (Nat.le_refl _) o : ∀ o, Below w9.heap.size w9 (w9.alloc o))
                have TY := hidN1 (fun o k hk => own_type (own_bel F9.out (HW.out o)) (k := k) hk)
                go_wp2_with (first | (at_builtin; refine wpList_append_any (by rfl) (.tmp 57) (.tmp 59) 48 (by rfl) w3.heap.size 3 _ 1 8 Tryz.underlying48 infoIF (by rfl) (by omega) _ j _ (by rfl) (own_bel F9.out (HW.out _)) (some ⟨_, 0, none⟩) 1 1 (by rfl) [.int .i64 (L2.length : Int)] (by rfl) (fun e => by cases e) (news_new _ _ _ _ (by simp)) (by intro u hu; simp at hu; subst hu; rfl) (by unfold maxLen; omega) (by omega) (by simp; omega) ?_; intro a10 c10 w10 ho10 hg10 hl10) | fail)
                have hs10 := hg10.out.size
                simp at hs10
                go_roundw
                case rel =>
                  refine ⟨j + 1, a10, c10, a8, c8, L2 ++ [(X, .slice a5 X.tests.length c5)], by go_num, by omega, rfl, by rw [HR.out]; simp, by rw [HR.out, icells_snoc]; exact ho10.out, (N9.out.bel (HW.out _)).grown hg10.out (TY.out _) (by decide), (A9.out.bel (HW.out _)).grown hg10.out (TY.out _) (by decide) (by decide), (O9.out.below (HW.out _)).grownHi hg10.out (fun k hk => (F9.out.lt k hk).1) LOW.out, (T9.out.bel (HW.out _)).grown hg10.out (TY.out _) (by decide), (B9.out.trans ((HW.out _).mono B9.out.size)).grown hg10.out (by simp; omega) (fun k hk => by have := (F9.out.lt k hk).1; omega), by omega⟩
                case measure => (simp [intOf]; omega)
        · have hje : j = r.pats.length := by omega
          subst hje
          have HW := hidN1 (fun o => (Below.refl _ _).alloc (Nat.le_refl _) o : ∀ o, Below wq.heap.size wq (wq.alloc o))
          have TY := hidN1 (fun o k hk => own_type (own_bel Oq.out.own (HW.out o)) (k := k) hk)
          have hy1 : ¬ (r.pats.length : Int) < (r.pats.length : Int) := by omega
          obtain ⟨⟨n0, n1⟩, _, _⟩ := Nq.out.facts
          go_upto_region 25 with (first | (at_builtin; refine wpList_append_any (by rfl) (.tmp 63) (.tmp 65) 25 (by rfl) w2.heap.size 48 _ 1 24 Tryz.underlying25 infoILF (by rfl) (by omega) _ k _ (by rfl) (own_bel Oq.out.own (HW.out _)) (some ⟨_, 0, none⟩) 1 1 (by rfl) [.slice fa r.pats.length fc] (by rfl) (fun e => by cases e) (news_new _ _ _ _ (by simp)) (by intro u hu; simp at hu; subst hu; rfl) (by unfold maxLen; omega) (by omega) (by simp; omega) ?_; intro a8 c8 w8 ho8 hg8 hl8; have N8 := hidN1 ((Nq.out.bel (HW.out _)).grown hg8.out (TY.out _) (by decide)); obtain ⟨⟨n0', n1'⟩, z', _⟩ := N8.out.facts; have z1' := z' 1; clear z') | fail)
          refine lift_nb1 N8.out ?_
          intro w9 hN9 ht9
          have N9 := hidN1 hN9
          have O8 := hidN1 (OLL.snoc (x := .slice fa r.pats.length fc) (xs := (rowA A (r.pats.take r.pats.length)).2) (Oq.out.below (HW.out _)) ⟨⟨fa, fc, by rw [rowA_len, List.length_take, Nat.min_self]⟩, owns_base (own_bel (show wq.ownsRow w3.heap.size 3 1 (.slice fa r.pats.length fc) (rowA A (r.pats.take r.pats.length)).2.length (icells (rowA A (r.pats.take r.pats.length)).2) by rw [rowA_len, List.length_take, Nat.min_self]; exact Fq.out) (HW.out _)) (show w2.heap.size ≤ w3.heap.size by omega)⟩ (fun g hg hgx => by have h1 := LOW.out g (.inl hg); have h2 := (Fq.out.lt g hgx).1; omega) (fun y hy g hg hgx => by have h1 := LOW.out g (.inr ⟨y, hy, hg⟩); have h2 := (Fq.out.lt g hgx).1; omega) ho8.out hg8.out hl8.out)
          have A8 := hidN1 ((Aq.out.bel (HW.out _)).grown hg8.out (TY.out _) (by decide) (by decide))
          have T8 := hidN1 ((Tq.out.bel (HW.out _)).grown hg8.out (TY.out _) (by decide))
          have B8 := hidN1 ((Bq.out.trans ((HW.out _).mono Bq.out.size)).grown hg8.out (by simp; omega) (fun g hg => by have := (Oq.out.range (.inl hg)).1; omega))
          have hs8 := hg8.out.size
          simp at hs8
          have A9 := hidN1 (A8.out.turned N8.out ht9)
          have O9 := hidN1 (O8.out.turned N8.out ht9)
          have T9 := hidN1 (T8.out.turned ht9 (by omega))
          have B9 := hidN1 (B8.out.trans (ht9.below (by omega)))
          have hs9 : w8.heap.size ≤ w9.heap.size := Nat.le_of_eq ht9.size.symm
          clear n0 n1 n0' n1' z1' hN9 ht9 N8 O8 A8 T8 B8
          go_wp2_with fail
          go_roundw
          case rel =>
            refine ⟨k + 1, aa2, ac2, L2, a8, c8, vs ++ [.slice fa r.pats.length fc], by go_num, by omega, ?_, N9.out, A9.out, ?_, T9.out, B9.out, by omega⟩
            · rw [HNS.out, HL2.out, List.take_of_length_le (Nat.le_refl _)]
            · rw [HNS.out]
              have := O9.out
              rw [List.take_of_length_le (Nat.le_refl _)] at this
              exact this
          case measure => (simp [intOf]; omega)
    · have hke : k = rs.length := by omega
      subst hke
      have hy1 : ¬ (rs.length : Int) < (rs.length : Int) := by omega
      have HL' := hidN1 (show L.map Prod.fst = (netA [] rs).1 by rw [HL.out, List.take_of_length_le (Nat.le_refl _)])
      have OL' := hidN1 (show OLL wr w2.heap.size (.slice oa rs.length oc) rs.length (netA [] rs).2 vs by have := OL.out; rw [List.take_of_length_le (Nat.le_refl _)] at this; exact this)
      obtain ⟨⟨n0, n1⟩, _, _⟩ := N.out.facts
      obtain ⟨⟨t0, t1⟩, z, _⟩ := T.out.facts
      have z0 := z 0
      have z1 := z 1
      clear z
      go_wp2_with fail
      refine bodyPost_ret (v := .agg #[.slice aa L.length ac, .slice oa rs.length oc]) (by simp [results, Tryz.results5, go_sem, t0, t1]) rfl ⟨⟨aa, ac, oa, oc, ?_, ?_, ?_⟩, ?_⟩
      · rw [HN.out]
        have h1 := congrArg List.length HL'.out
        simp at h1
        simp [h1, netA_len]
      · rw [HN.out]
        show AlsAt none _ aa (netA [] rs).1
        rw [← HL'.out]
        exact ((AOr.out.set T.out (by decide) (by decide)).set (T.out.set0 _) (by decide) (by decide)).at
      · rw [HN.out]
        exact ((OL'.out.setT T.out (by decide) (by decide)).setT (T.out.set0 _) (by decide) (by decide)).ils
      · exact (B.out.setCell (Nat.le_refl _) _).setCell (Nat.le_refl _) _
end Go.Proofs.YtgamdkokmkagaaaGreat
