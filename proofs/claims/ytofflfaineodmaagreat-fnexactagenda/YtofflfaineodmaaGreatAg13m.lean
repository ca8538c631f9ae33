/-
  OUR OWN TEXT. The model's Agenda.
-/
import Derived.Test.YtofflfaineodmaaGreatZy
import Derived.Test.YtofflfaineodmaaGreatAg10m
import Derived.Deep.RegionHeld3
import Derived.Deep.DrawnRows
namespace Go.Proofs.YtofflfaineodmaaGreat
open Go.RowKit
attribute [local go_sem ↓] Go.wp_at_zero Go.wp_at_succ

/-- Rows of instantiations that stand where only their own block is kept from writing. -/
theorem Iw.mko {w w' : World} {b1 base : Nat} {a : Option Addr} {c : Nat} {L : List ItX} {ob : Option Nat} (h : Iw w b1 base a c L) (hm : MkO ob w w') (ht : ∀ k, ob = some k → ∃ cc, w.heap[k]? = some (.cells cc 47 (0, 0))) (hne : ∀ g, (Value.slice a L.length c).ownBlock = some g → ob ≠ some g) : Iw w' b1 base a c L :=
  h.kept (fun g hg => by
    rcases hg with hg | ⟨x, hx, hg⟩
    · exact hm.block g (h.row.lt g hg).2 (hne g hg)
    · refine hm.block g ((h.all x hx).ot.lt g hg).2 (fun e => ?_)
      obtain ⟨_, h1⟩ := ht g e
      obtain ⟨_, h2⟩ := own_type (h.all x hx).ot hg
      exact own_far h1 h2 (by decide))
theorem MkO.of_grown {ob : Option Nat} {w w' : World} (h : w.grownBy w' ob) : MkO ob w w' := ⟨⟨h.os, h.tape, h.output, h.size, fun k hk => absurd hk (by omega)⟩, fun g hg hne => h.block g hg (Ne.symm hne)⟩
theorem itFlat_put {L : List ItX} {y : ItX} : ∀ (m : Nat), m < L.length → ((L.flatMap itCells).set (m * 2) (.int .i64 y.1.rule)).set (m * 2 + 1) y.2 = (L.set m y).flatMap itCells := by
  induction L with
  | nil => intro m h; simp at h
  | cons x r ih =>
    intro m h
    rcases m with _ | m
    · simp [itCells]
    · have hl : (itCells x).length = 2 := rfl
      rw [List.flatMap_cons, List.set_append_right _ _ (by rw [hl]; omega), List.set_append_right _ _ (by rw [hl]; omega), hl, show (m + 1) * 2 - 2 = m * 2 by omega, show (m + 1) * 2 + 1 - 2 = m * 2 + 1 by omega, ih m (by simpa using h), List.set_cons_succ, List.flatMap_cons]
theorem Iw.put {w : World} {b base g c : Nat} {L : List ItX} {m : Nat} {y : ItX} (h : Iw w b base (some ⟨g, 0, none⟩) c L) (hm : m < L.length) (hy : y ∈ L) : Iw ((w.setCell ⟨g, m * 2, none⟩ (.int .i64 y.1.rule)).setCell ⟨g, m * 2 + 1, none⟩ y.2) b base (some ⟨g, 0, none⟩) c (L.set m y) := by
  obtain ⟨cc, hc⟩ := own_type h.row (k := g) rfl
  refine ⟨?_, fun x hx => ?_⟩
  · have h1 := (((h.row.stored (m * 2) (.int .i64 y.1.rule)).1).stored (m * 2 + 1) y.2).1
    rw [itFlat_put m hm] at h1
    simpa using h1
  · have hx' : ItP w base x := by
      rcases List.mem_or_eq_of_mem_set hx with hx | rfl
      · exact h.all x hx
      · exact h.all _ hy
    exact ⟨hx'.ts, own_set (own_set hx'.ot hc (by decide)) (heap_setCell_same (i := m * 2) hc (.int .i64 y.1.rule)) (by decide)⟩
theorem itFlat_len' (L : List ItX) : (L.flatMap itCells).length = L.length * 2 := by
  induction L with
  | nil => rfl
  | cons x r ih => rw [List.flatMap_cons, List.length_append, ih, List.length_cons, show (itCells x).length = 2 from rfl]; omega
theorem Iw.cut {w : World} {b base : Nat} {a : Option Addr} {c n : Nat} {L : List ItX} (h : Iw w b base a c L) (hn : n ≤ L.length) : Iw w b base a c (L.take n) := by
  have h1 := own_cut h.row (k := n) hn
  have e : (L.flatMap itCells).take (n * 2) = (L.take n).flatMap itCells := by
    have e1 : L.flatMap itCells = (L.take n).flatMap itCells ++ (L.drop n).flatMap itCells := by rw [← List.flatMap_append, List.take_append_drop]
    rw [e1, List.take_append_of_le_length (by rw [itFlat_len', List.length_take, Nat.min_eq_left hn]; exact Nat.le_refl _), List.take_of_length_le (by rw [itFlat_len', List.length_take, Nat.min_eq_left hn]; exact Nat.le_refl _)]
  rw [e] at h1
  refine ⟨?_, fun x hx => h.all x (List.mem_of_mem_take hx)⟩
  rw [List.length_take, Nat.min_eq_left hn]
  exact h1
theorem Iw.cap {w : World} {b base : Nat} {a : Option Addr} {c : Nat} {L : List ItX} (h : Iw w b base a c L) : L.length ≤ c := by
  rcases h.row.2 with ⟨h1, h2⟩ | ⟨g, cap, cur, h1, _, _, h4, _⟩
  · omega
  · injection h1 with _ _ e3
    omega
def SaI1 (rs : List Ru) (xs : List In) (w : World) (k : Nat) (lv : Value) (wr : World) : Prop := ∃ (N : List ItX) (a : Option Addr) (c : Nat), lv = .slice a N.length c ∧ N.map (fun y => toIn y.1) = xs.take k ∧ Iw wr w.heap.size w.heap.size a c N ∧ (∀ x ∈ xs.take k, placedI rs x = true) ∧ Below w.heap.size w wr
def SaI2 (rs : List Ru) (xs : List In) (w : World) (lv ov : Value) (wr : World) : Prop := ∃ (N M : List ItX) (la oa : Option Addr) (lc oc : Nat), lv = .slice la N.length lc ∧ ov = .slice oa M.length oc ∧ M.length + N.length = xs.length ∧ Iw wr w.heap.size w.heap.size la lc N ∧ Iw wr w.heap.size w.heap.size oa oc M ∧ (∀ y ∈ N, placedI rs (toIn y.1) = true) ∧ OutF (befI rs) xs (M.map (fun y => toIn y.1)) (fi N) N.length ∧ Apart (.slice oa M.length oc) (.slice la N.length lc) ∧ Below w.heap.size w wr
/-- What the model's Agenda leaves. -/
def SaPost (L : List It) (w : World) (e : Ending) (w' : World) : Prop := (∃ a c M, e = .returned (.slice a (List.length M) c) ∧ Iw w' w.heap.size w.heap.size a c M ∧ M.map Prod.fst = L) ∧ Below w.heap.size w w'
theorem SaPost.nil {L : List It} {w w' : World} (hL : L = []) (hb : Below w.heap.size w w') : SaPost L w (.returned (.slice none 0 0)) w' := by
  subst hL
  exact ⟨⟨none, 0, [], rfl, Iw.nil _ _ _, rfl⟩, hb⟩
set_option maxRecDepth 100000 in
set_option maxHeartbeats 12800000 in
theorem sAgenda_any (rs : List Ru) (xs : List In) (a : Option Addr) (c : Nat) (xa : Option Addr) (xc : Nat) {q : Option Nat} (w : World) (hv : RusAt q w a rs) (hc : rs.length ≤ c) (hle : ListLe Ru.le 1048576 rs) (ho : ∀ x ∈ rs, OpsOk x.exprs) (hx : InsS w xa xs) (hlx : xs.length ≤ 1048576) (hts : ∀ x ∈ xs, x.tags.length ≤ 1048576) :
    Calls Tryz.prog 6 #[.slice a rs.length c, .slice xa xs.length xc] w (SaPost ((agM rs xs).map inIt) w) := by
  have hl : rs.length ≤ 1048576 := hle.1
  have HCK := hidA (l2Checked_any rs a c w hv hc hle ho)
  have HV := hidA hv
  have HX := hidA hx
  have HTS := hidA hts
  clear hv hx hle ho hts
  by_cases h1000 : xs.length ≤ 1000
  · have hcmp : ¬ (1000 : Int) < (xs.length : Int) := by omega
    by_cases hz : (chk rs).1 = 0
    · have HOK := hidA (show (∀ x ∈ xs, placedI rs x = true) → agM rs xs = agS rs xs from fun h => agM_yes (by unfold agOk; simp [hz, h1000]; exact h))
      rw [decide_eq_true hz] at HCK
      clear hz
      go_enter Tryz.func6, Tryz.ntmps6
      go_wp2_with fail
      refine HCK.out.mono ?_
      rintro e w1 ⟨rfl, hb1⟩
      have I0 := hidA (show SaI1 rs xs w 0 (.slice none 0 0) w1 from ⟨[], none, 0, rfl, by simp, Iw.nil _ _ _, by simp, hb1⟩)
      clear hb1 HCK
      go_wp2_with fail
      go_loopw [21, 5] (fun iv lv wr => ∃ k : Nat, iv = .int .i64 (k : Int) ∧ k ≤ xs.length ∧ SaI1 rs xs w k lv wr) (fun iv _ _ => xs.length - (intOf iv).toNat)
      case atStart => exact ⟨0, rfl, Nat.zero_le _, I0.out⟩
      case round =>
        obtain ⟨k, rfl, hkl, N, na, nc, rfl, hN, hIO, hpl, hb⟩ := hrel
        have HN := hidA hN
        have II := hidA hIO
        have PL := hidA hpl
        have WB := hidA hb
        have hNl : N.length ≤ 1000 := by have := congrArg List.length hN; rw [List.length_map, List.length_take] at this; omega
        have hsr := hb.size
        clear hN hIO hpl hb I0
        by_cases hk : k < xs.length
        · obtain ⟨x, hx⟩ : ∃ x, xs[k]? = some x := ⟨xs[k], by simp [hk]⟩
          obtain ⟨b, o, bt, ot, ct, rfl, c0, c1, hi⟩ := (HX.out.below WB.out) k x hx
          have hxm := List.mem_of_getElem? hx
          have hxt := HTS.out x hxm
          have HI := hidA hi
          have HTK := hidA (take_snoc' hx)
          have HXM := hidA hxm
          have z0 : (0 : Int) ≤ (k : Int) := by omega
          have z1 : (k : Int) < (xs.length : Int) := by omega
          clear hx hi hxm
          go_upto_region 7 with fail
          refine lift_alloc ?_
          intro w3 hW3 hq3
          obtain ⟨tb, htb⟩ : ∃ b, b = wr.heap.size := ⟨_, rfl⟩
          rw [← htb] at hq3 ⊢
          have d0 : w3.cell? ⟨tb, 0, none⟩ = some (.int .i64 x.rule) := by simp [World.cell?, hq3]
          have d1 : w3.cell? ⟨tb, 1, none⟩ = some (.slice (some ⟨bt, ot, none⟩) x.tags.length ct) := by simp [World.cell?, hq3]
          have I3 := hidA (II.out.bel hW3)
          have W3 := hidA (WB.out.trans (hW3.mono WB.out.size))
          have T3 := hidA (HI.out.below hW3)
          have HPL := hidA (l5There_any rs a c x (some ⟨bt, ot, none⟩) ct w3 hl hxt)
          clear hW3 hq3 htb c0 c1
          cases hp : placedI rs x
          · rw [hp] at HPL
            have HE := hidA (show (agM rs xs).map inIt = [] by rw [agM_no (agOk_bad HXM.out hp)]; rfl)
            clear hp
            go_wp2_with fail
            refine HPL.out.mono ?_
            rintro e w4 ⟨rfl, hb4⟩
            have W4 := hidA (W3.out.trans (hb4.mono W3.out.size))
            clear hb4 HPL
            go_wp2_with fail
            go_ret
            exact SaPost.nil HE.out W4.out
          · rw [hp] at HPL
            have HPX := hidA hp
            clear hp
            go_wp2_with fail
            refine HPL.out.mono ?_
            rintro e w4 ⟨rfl, hb4⟩
            have W4 := hidA (W3.out.trans (hb4.mono W3.out.size))
            have I4 := hidA (I3.out.bel hb4)
            have e0 := cell_below hb4 d0
            have e1 := cell_below hb4 d1
            have HLI := hidA (l4Inst_own x (some ⟨bt, ot, none⟩) ct w4 (T3.out.below hb4) hxt)
            have hs4 := W4.out.size
            clear hb4 HPL d0 d1 I3 W3 T3
            go_wp2_with fail
            refine HLI.out.mono ?_
            rintro e w5 ⟨⟨a2, c2, rfl, o2⟩, hb5⟩
            have W5 := hidA (W4.out.trans (hb5.mono W4.out.size))
            have I5 := hidA (I4.out.bel hb5)
            have P5 := hidA (show ItP w5 w.heap.size (inIt x, .slice a2 x.tags.length c2) from ⟨⟨a2, c2, rfl⟩, owns_base o2 hs4⟩)
            have HW5 := hidA (fun o' => (Below.refl _ _).alloc (Nat.le_refl _) o' : ∀ o', Below w5.heap.size w5 (w5.alloc o'))
            have hs5 := W5.out.size
            clear o2 hb5 HLI e0 e1 I4 W4
            go_wp2_with (first | (at_builtin; refine wpList_append_any (by rfl) (.tmp 29) (.tmp 32) 26 (by rfl) w.heap.size 47 _ 2 32 Tryz.underlying26 infoItG (by rfl) (by omega) _ N.length _ (by rfl) (own_bel I5.out.row (HW5.out _)) (some ⟨_, 0, none⟩) 1 1 (by rfl) (itCells (inIt x, .slice a2 x.tags.length c2)) (by rfl) (fun e => by cases e) (news_new _ _ _ _ (by first | rfl | simp)) (by intro u hu; simp [itCells] at hu; rcases hu with rfl | rfl <;> rfl) (by unfold maxLen; omega) (by omega) (by simp; omega) ?_; intro a9 c9 w9 ho9 hg9 hl9) | fail)
            have J9 := hidA (show SaI1 rs xs w (k + 1) (.slice a9 (N.length + 1) c9) w9 from ⟨N ++ [(inIt x, .slice a2 x.tags.length c2)], a9, c9, by simp, by rw [List.map_append, HN.out, HTK.out]; rfl, Iw.snoc (I5.out.bel (HW5.out _)) (P5.out.bel (HW5.out _)) ho9.out hg9.out, fun y hy => by
                rw [HTK.out] at hy
                rcases List.mem_append.1 hy with hy | hy
                · exact PL.out y hy
                · rw [List.mem_singleton.1 hy]
                  exact HPX.out, (W5.out.trans ((HW5.out _).mono (by omega))).grown hg9.out (by simp; omega) (fun g hg => (I5.out.row.lt g hg).1)⟩)
            clear ho9 hg9 hl9
            go_roundw
            case rel => exact ⟨k + 1, by go_num, by omega, J9.out⟩
            case measure => (simp [intOf]; omega)
        · have hke : k = xs.length := by omega
          have hy : ¬ (k : Int) < (xs.length : Int) := by omega
          have HAL := hidA (show ∀ x ∈ xs, placedI rs x = true from fun x hx => PL.out x (by rw [hke, List.take_length]; exact hx))
          have HNx := hidA (show N.map (fun y => toIn y.1) = xs by rw [HN.out, hke, List.take_length])
          have J0 := hidA (show SaI2 rs xs w (.slice na N.length nc) (.slice none 0 0) wr from ⟨N, [], na, none, nc, 0, rfl, rfl, by
              have := congrArg List.length HNx.out
              rw [List.length_map] at this
              simpa using this, II.out, Iw.nil _ _ _, fun y hy => HAL.out _ (by rw [← HNx.out]; exact List.mem_map.2 ⟨y, hy, rfl⟩), ⟨by rw [upto_fi, HNx.out]; simp, List.Pairwise.nil, by simp⟩, fun g hg => (by cases hg), WB.out⟩)
          have HFIN := hidA (HOK.out HAL.out)
          clear hke HN II PL WB HOK HNx
          go_wp2_with fail
          go_loopw [5, 8] (fun lv ov wr => SaI2 rs xs w lv ov wr) (fun lv _ _ => lenV lv)
          case atStart => exact J0.out
          case round =>
            obtain ⟨N, M, la, oa, lc, oc, rfl, rfl, hlen, hL, hO, hpl, hout, hap, hb⟩ := hrel
            have LL := hidA hL
            have OO := hidA hO
            have PL := hidA hpl
            have OF := hidA hout
            have AP := hidA hap
            have WB := hidA hb
            have hsr := hb.size
            have hM1 : M.length ≤ 1000 := by omega
            have hN1 : N.length ≤ 1000 := by omega
            clear hL hO hpl hout hap hb J0
            by_cases h0 : N.length = 0
            · have hg : ¬ (0 : Int) < (N.length : Int) := by omega
              have HF := hidA (show M.map Prod.fst = (agM rs xs).map inIt by
                have h1 := OF.out
                rw [h0] at h1
                have h2 := h1.end
                rw [HFIN.out, ← agS_eq h2.1 h2.2, List.map_map]
                exact List.map_congr_left (fun y _ => rfl))
              clear h0
              go_wp2_with fail
              go_ret
              exact ⟨⟨oa, oc, M, rfl, OO.out, HF.out⟩, WB.out⟩
            · obtain ⟨n, hn⟩ : ∃ n, N.length = n + 1 := ⟨N.length - 1, by omega⟩
              have hg : (0 : Int) < (N.length : Int) := by omega
              have hg2 : 0 < N.length := by omega
              have HN := hidA hn
              obtain ⟨wR, hwR⟩ : ∃ v, v = wr := ⟨wr, rfl⟩
              rw [← hwR] at LL OO WB hsr ⊢
              clear h0 hn hwR
              go_wp2_with fail
              go_loopw [40, 9] (fun iv av wq => ∃ (i m : Nat), iv = .int .i64 (i : Int) ∧ av = .int .i64 (m : Int) ∧ i ≤ N.length ∧ m < N.length ∧ (∀ k, k < i → befI rs (fi N k) (fi N m) = false) ∧ Below wR.heap.size wR wq) (fun iv _ _ => N.length - (intOf iv).toNat)
              case atStart => exact ⟨0, 0, rfl, rfl, Nat.zero_le _, by omega, by simp, Below.refl _ _⟩
              case round =>
                obtain ⟨i, m, rfl, rfl, hil, hml, hmin, hb⟩ := hrel
                have HMIN := hidA hmin
                have BQ := hidA hb
                have LQ := hidA (LL.out.bel hb)
                have WQ := hidA (WB.out.trans (hb.mono hsr))
                clear hmin hb
                by_cases hi : i < N.length
                · obtain ⟨y, hy⟩ : ∃ y, N[i]? = some y := ⟨N[i], by simp [hi]⟩
                  obtain ⟨z, hz'⟩ : ∃ z, N[m]? = some z := ⟨N[m], by simp [hml]⟩
                  obtain ⟨g, rfl, _, _, c0, c1, _⟩ := LQ.out.get hy
                  obtain ⟨g', e', _, _, d0, d1, _⟩ := LQ.out.get hz'
                  cases e'
                  have py := LQ.out.all y (List.mem_of_getElem? hy)
                  have pz := LQ.out.all z (List.mem_of_getElem? hz')
                  have qy := PL.out y (List.mem_of_getElem? hy)
                  have qz := PL.out z (List.mem_of_getElem? hz')
                  have FY := hidA (fi_at hy)
                  have FZ := hidA (fi_at hz')
                  obtain ⟨y, yv⟩ := y
                  obtain ⟨z, zv⟩ := z
                  obtain ⟨a1, b1, e1⟩ := py.ts
                  obtain ⟨a2, b2, e2⟩ := pz.ts
                  have o1 := py.ot
                  have o2 := pz.ot
                  simp only at e1 e2 o1 o2 c0 c1 d0 d1 FY FZ qy qz
                  subst e1 e2
                  have HBF := hidA (fun w' (h : Below wr.heap.size wr w') => l5Before_any rs a c (toIn y) (toIn z) a1 a2 b1 b2 w' ((HV.out.below WQ.out).below h) ((IntsAt.owns o1).below h) ((IntsAt.owns o2).below h) qy qz)
                  rw [bef_same] at HBF
                  have HBF' := hidA (show ∀ w', Below wr.heap.size wr w' → Calls Tryz.prog 20 #[.slice a rs.length c, .agg #[.int .i64 y.rule, .slice a1 y.tags.length b1], .agg #[.int .i64 z.rule, .slice a2 z.tags.length b2]] w' fun e w'' => e = .returned (.bool (befI rs (toIn y) (toIn z))) ∧ Below w'.heap.size w' w'' from HBF.out)
                  have B1 : Below wr.heap.size wr wr.drew := (Below.refl _ _).drew
                  have y0 : (0 : Int) ≤ (i : Int) := by omega
                  have y1 : (i : Int) < (N.length : Int) := by omega
                  have y2 : (0 : Int) ≤ (m : Int) := by omega
                  have y3 : (m : Int) < (N.length : Int) := by omega
                  clear hy hz' py pz qy qz o1 o2 HBF
                  cases hbf : befI rs (toIn y) (toIn z)
                  · have HM2 := hidA (show ∀ k, k < i + 1 → befI rs (fi N k) (fi N m) = false from fun k hk => by
                      by_cases e : k < i
                      · exact HMIN.out k e
                      · rw [show k = i by omega, FY.out, FZ.out]
                        exact hbf)
                    rw [hbf] at HBF'
                    clear hbf
                    go_wp2_with fail
                    go_region_held3 (fun w' => w'.cell? ⟨g, i * 2, none⟩ = some (.int .i64 y.rule) ∧ w'.cell? ⟨g, i * 2 + 1, none⟩ = some (.slice a1 y.tags.length b1) ∧ w'.cell? ⟨g, m * 2, none⟩ = some (.int .i64 z.rule) ∧ w'.cell? ⟨g, m * 2 + 1, none⟩ = some (.slice a2 z.tags.length b2)) ((go_split_ands; refine ⟨?_, ?_, ?_, ?_⟩ <;> first | (simp [*]; done) | exact cell_below hb' (by assumption)))
                      (first | (go_at_call 20; refine (HBF'.out _ B1).mono ?_; rintro e w' ⟨rfl, hb'⟩))
                    go_wp2_with fail
                    go_roundw
                    case rel => exact ⟨i + 1, m, by go_num, rfl, by omega, hml, HM2.out, BQ.out.trans ((B1.trans (hb'.mono (by simp))).mono BQ.out.size)⟩
                    case measure => (simp [intOf]; omega)
                  · have HM2 := hidA (show ∀ k, k < i + 1 → befI rs (fi N k) (fi N i) = false from fun k hk => by
                      by_cases e : k < i
                      · have h1 := HMIN.out k e
                        have h2 : befI rs (fi N m) (fi N i) = false := by rw [FY.out, FZ.out]; exact (bef_strict rs).asym _ _ hbf
                        exact (bef_strict rs).le_trans h2 h1
                      · rw [show k = i by omega]
                        exact (bef_strict rs).irr _)
                    rw [hbf] at HBF'
                    clear hbf
                    go_wp2_with fail
                    go_region_held3 (fun w' => w'.cell? ⟨g, i * 2, none⟩ = some (.int .i64 y.rule) ∧ w'.cell? ⟨g, i * 2 + 1, none⟩ = some (.slice a1 y.tags.length b1) ∧ w'.cell? ⟨g, m * 2, none⟩ = some (.int .i64 z.rule) ∧ w'.cell? ⟨g, m * 2 + 1, none⟩ = some (.slice a2 z.tags.length b2)) ((go_split_ands; refine ⟨?_, ?_, ?_, ?_⟩ <;> first | (simp [*]; done) | exact cell_below hb' (by assumption)))
                      (first | (go_at_call 20; refine (HBF'.out _ B1).mono ?_; rintro e w' ⟨rfl, hb'⟩))
                    go_wp2_with fail
                    go_roundw
                    case rel => exact ⟨i + 1, i, by go_num, rfl, by omega, hi, HM2.out, BQ.out.trans ((B1.trans (hb'.mono (by simp))).mono BQ.out.size)⟩
                    case measure => (simp [intOf]; omega)
                · have hie : i = N.length := by omega
                  have hni : ¬ (i : Int) < (N.length : Int) := by omega
                  obtain ⟨n, hn⟩ : ∃ n, N.length = n + 1 := ⟨N.length - 1, by omega⟩
                  obtain ⟨z, hz'⟩ : ∃ z, N[m]? = some z := ⟨N[m], by simp [hml]⟩
                  obtain ⟨y, hy⟩ : ∃ y, N[n]? = some y := ⟨N[n], by simp⟩
                  have HMA := hidA (show ∀ k, k < n + 1 → befI rs (fi N k) (fi N m) = false from fun k hk => HMIN.out k (by omega))
                  obtain ⟨g, rfl, _, _, d0, d1, _⟩ := LQ.out.get hz'
                  have pz := LQ.out.all z (List.mem_of_getElem? hz')
                  obtain ⟨a2, b2, e2⟩ := pz.ts
                  have E2 := hidA e2
                  rw [e2] at d1
                  have PZ := hidA pz
                  have HZ := hidA hz'
                  have HY := hidA hy
                  have HNN := hidA hn
                  have OQ := hidA (OO.out.bel BQ.out)
                  have HWQ := hidA (fun o' => (Below.refl _ _).alloc (Nat.le_refl _) o' : ∀ o', Below wr.heap.size wr (wr.alloc o'))
                  have hsq := WQ.out.size
                  have y2 : (0 : Int) ≤ (m : Int) := by omega
                  have y3 : (m : Int) < (N.length : Int) := by omega
                  clear hz' hy pz e2 hie hn HMIN
                  go_upto_region 21 with (first | (at_builtin; refine wpList_append_any (by rfl) (.tmp 55) (.tmp 60) 26 (by rfl) w.heap.size 47 _ 2 32 Tryz.underlying26 infoItG (by rfl) (by omega) _ M.length _ (by rfl) (own_bel OQ.out.row (HWQ.out _)) (some ⟨_, 0, none⟩) 1 1 (by rfl) (itCells (z.1, .slice a2 z.1.tags.length b2)) (by rfl) (fun e => by cases e) (news_new _ _ _ _ (by first | rfl | simp)) (by intro u hu; simp [itCells] at hu; rcases hu with rfl | rfl <;> rfl) (by unfold maxLen; omega) (by omega) (by simp; omega) ?_; intro a9 c9 w9 ho9 hg9 hl9) | fail)
                  have TYO := hidA (fun o k hk => own_type (own_bel OQ.out.row (HWQ.out o)) (k := k) hk)
                  have L9 := hidA ((LQ.out.bel (HWQ.out _)).mko (MkO.of_grown hg9.out) (TYO.out _) (fun g' h1 h2 => AP.out g' h2 h1))
                  have O9 := hidA (Iw.snoc (OQ.out.bel (HWQ.out _)) (x := z) (PZ.out.bel (HWQ.out _)) (by have := ho9.out; rw [← E2.out] at this; exact this) hg9.out)
                  have W9 := hidA ((WQ.out.trans ((HWQ.out _).mono hsq)).grown hg9.out (by simp; omega) (fun g hg => (OQ.out.row.lt g hg).1))
                  have A9 := hidA (show Apart (.slice a9 (M.length + 1) c9) (.slice (some ⟨g, 0, none⟩) N.length lc) from fun g' h1 h2 => by
                    rcases hl9.out with h3 | h3
                    · rw [h3] at h1
                      exact AP.out g' h1 h2
                    · rw [h3] at h1
                      injection h1 with h1
                      have h4 := (LQ.out.row.lt g' h2).2
                      simp at h1
                      omega)
                  obtain ⟨g1, eg1, _, _, x0, x1, _⟩ := L9.out.get HY.out
                  obtain ⟨g2, eg2, _, _, t0, t1, _⟩ := L9.out.get HZ.out
                  cases eg1
                  cases eg2
                  obtain ⟨cg, hcg⟩ := own_type L9.out.row (k := g) rfl
                  have f0 : w9.frozen? ⟨g, m * 2, none⟩ = false := by simp [World.frozen?, hcg]
                  have f1 : w9.frozen? ⟨g, m * 2 + 1, none⟩ = false := by simp [World.frozen?, hcg]
                  obtain ⟨a3, b3, e3⟩ := (L9.out.all y (List.mem_of_getElem? HY.out)).ts
                  have E3 := hidA e3
                  rw [e3] at x1
                  have TG := hidA hcg
                  have hv : (N.length : Int) - 1 = (n : Int) := by have := HNN.out; omega
                  have y4 : (0 : Int) ≤ (n : Int) := by omega
                  have y5 : (n : Int) < (N.length : Int) := by have := HNN.out; omega
                  have y6 : (n : Int) ≤ (lc : Int) := by have := L9.out.cap; omega
                  have hs9 := W9.out.size
                  clear ho9 hg9 hl9 d0 d1 hcg e3
                  go_upto_region 22 with fail
                  obtain ⟨w10, hw10⟩ : ∃ v, v = (w9.setCell ⟨g, m * 2, none⟩ (.int .i64 y.1.rule)).setCell ⟨g, m * 2 + 1, none⟩ (.slice a3 y.1.tags.length b3) := ⟨_, rfl⟩
                  have M10 := hidA (show MkO (some g) w9 w10 by rw [hw10]; exact (MkO.set _).trans (MkO.set _))
                  have L10 := hidA (show Iw w10 w.heap.size w.heap.size (some ⟨g, 0, none⟩) lc (N.set m y) by rw [hw10, ← E3.out]; exact L9.out.put hml (List.mem_of_getElem? HY.out))
                  rw [← hw10]
                  have O10 := hidA (O9.out.mko M10.out (fun k hk => by injection hk with hk; subst hk; exact ⟨_, TG.out⟩) (fun g' h1 h2 => by
                    rw [List.length_append] at h1
                    exact A9.out g' h1 (by rw [← h2]; rfl)))
                  have W10 := hidA (W9.out.trans (M10.out.below hs9 (fun g' h1 => by injection h1 with h1; have := (L9.out.row.lt g rfl).1; omega)))
                  have J10 := hidA (show SaI2 rs xs w (.slice (some ⟨g, 0, none⟩) n lc) (.slice a9 (M.length + 1) c9) w10 from ⟨(N.set m y).take n, M ++ [z], some ⟨g, 0, none⟩, a9, lc, c9, by
                      rw [List.length_take, List.length_set, HNN.out, Nat.min_eq_left (by omega)], by simp, by
                      have := HNN.out
                      rw [List.length_take, List.length_set, List.length_append]
                      simp
                      omega, L10.out.cut (by rw [List.length_set, HNN.out]; omega), O10.out, fun u hu => by
                      rcases List.mem_or_eq_of_mem_set (List.mem_of_mem_take hu) with hu | rfl
                      · exact PL.out u hu
                      · exact PL.out _ (List.mem_of_getElem? HY.out), by
                      have hln : ((N.set m y).take n).length = n := by rw [List.length_take, List.length_set, HNN.out, Nat.min_eq_left (by omega)]
                      rw [List.map_append, hln]
                      have h1 := OF.out
                      rw [HNN.out] at h1
                      have h2 := h1.at (m := m) (g := fi ((N.set m y).take n)) (by have := HNN.out; omega) HMA.out (by
                        have h3 := upto_fi ((N.set m y).take n)
                        rw [hln] at h3
                        have h4 := upto_fi N
                        rw [HNN.out] at h4
                        rw [h3, h4, fi_at HZ.out]
                        have h5 := (rem_perm HZ.out HY.out HNN.out).map (fun u : ItX => toIn u.1)
                        rw [List.map_append] at h5
                        exact h5)
                      rw [fi_at HZ.out] at h2
                      exact h2, fun g' h1 h2 => by
                      rw [List.length_append] at h1
                      exact A9.out g' h1 (by rw [← h2]; rfl), W10.out⟩)
                  clear hw10 f0 f1 t0 t1 x0 x1
                  go_wp2_with fail
                  go_roundw
                  case rel => exact J10.out
                  case measure => (simp [lenV]; have := HNN.out; omega)
    · rw [decide_eq_false hz] at HCK
      have HE := hidA (show (agM rs xs).map inIt = [] by rw [agM_no (by unfold agOk; simp [hz])]; rfl)
      clear hz
      go_enter Tryz.func6, Tryz.ntmps6
      go_wp2_with fail
      refine HCK.out.mono ?_
      rintro e w1 ⟨rfl, hb1⟩
      have B1 := hidA hb1
      clear hb1 HCK
      go_wp2_with fail
      go_ret
      exact SaPost.nil HE.out B1.out
  · have hcmp : (1000 : Int) < (xs.length : Int) := by omega
    have HE := hidA (show (agM rs xs).map inIt = [] by rw [agM_no (by unfold agOk; simp [h1000])]; rfl)
    go_enter Tryz.func6, Tryz.ntmps6
    go_wp2_with fail
    go_ret
    exact SaPost.nil HE.out (Below.refl _ _)
end Go.Proofs.YtofflfaineodmaaGreat
