/-
  OUR OWN TEXT. Mm8, Fa2, one behind the other.
-/
import Derived.Test.YtmmdlgjmplddiaaGreatGbr
import Derived.Test.YtmmdlgjmplddiaaGreatGas
import Derived.Test.YtmmdlgjmplddiaaGreatGbs
namespace Go.Proofs.YtmmdlgjmplddiaaGreat
open Go.RowKit
attribute [local go_sem ↓] Go.wp_at_zero Go.wp_at_succ

theorem map_take {α β : Type} (g : α → β) {l : List α} {j : Nat} {x : α} (h : l[j]? = some x) : (l.take (j + 1)).map g = (l.take j).map g ++ [g x] := by
  rw [List.take_add_one, h]
  simp
set_option maxRecDepth 100000 in
set_option maxHeartbeats 6400000 in
theorem l4Conflict_any (rs : List Ru) (fs : List F) (a : Option Addr) (c : Nat) (fa : Option Addr) (fc : Nat) {q : Option Nat} (w : World) (hv : RusAt q w a rs) (hf : FactsAt w fa fs) (hr : ready rs fs = true) :
    Calls Tryz.prog 38 #[.slice a rs.length c, .slice fa fs.length fc] w (CmPost (confGo fs 0 rs) w) := by
  have HV := hidM hv
  have HF := hidM hf
  have HB := hidM (fun k => conf_take_bound hr k)
  have HA := hidM (fun r (h : r ∈ rs) => all_bound hr h)
  have HS := hidM (fun r (h : r ∈ rs) => chk_small (ready_small hr).1 h)
  have hf40 := (ready_small hr).2.2
  have hl16 := chk_len (ready_small hr).1
  clear hv hf hr
  go_enter Tryz.func38, Tryz.ntmps38
  go_wp2_with fail
  go_loopw [14, 5] (fun iv sv wr => ∃ (k : Nat) (ia : Option Addr) (ic : Nat) (M : List ItX), iv = .int .i64 (k : Int) ∧ k ≤ rs.length ∧ sv = .slice ia M.length ic ∧ M.map Prod.fst = confGo fs 0 (rs.take k) ∧ Iw wr w.heap.size w.heap.size ia ic M ∧ Below w.heap.size w wr) (fun iv _ _ => rs.length - (intOf iv).toNat)
  case atStart => exact ⟨0, none, 0, [], rfl, Nat.zero_le _, rfl, rfl, Iw.nil _ _ _, Below.refl _ _⟩
  case round =>
    obtain ⟨k, ia, ic, M, rfl, hkl, rfl, hM, hIO, hb⟩ := hrel
    have HM := hidM hM
    have ROW := hidM hIO
    have BR := hidM hb
    have hsr := hb.size
    clear hM hIO hb
    by_cases hk : k < rs.length
    · obtain ⟨r, hr⟩ : ∃ r, rs[k]? = some r := ⟨rs[k], by simp [hk]⟩
      obtain ⟨rb, ro, a_p, c_p, a_e, c_e, a_c, c_c, rfl, _, c0, c1, c2, c3, c4, h_p, _, _, _⟩ := (HV.out.below BR.out).get hr
      have hrm := List.mem_of_getElem? hr
      obtain ⟨hp6, ht6, _⟩ := HS.out r hrm
      have HLA := hidM (fun w' (h : Below wr.heap.size wr w') => l4All_any r fs a_p c_p a_e c_e a_c c_c fa fc w' (h_p.below h) ((HF.out.below BR.out).below h) hp6 ht6 hf40)
      have HCT := hidM (conf_take fs hr)
      have HAR := hidM (HA.out r hrm)
      have z0 : (0 : Int) ≤ (k : Int) := by omega
      have z1 : (k : Int) < (rs.length : Int) := by omega
      clear hr hrm h_p ht6
      go_upto_region 5 with fail
      refine lift_alloc ?_
      intro w1 hW1 hq1
      obtain ⟨b0, b1, b2, b3, b4⟩ := cells5M hq1
      have H1 := hidM hW1
      have R1 := hidM (ROW.out.bel hW1)
      have B1 := hidM (BR.out.trans (hW1.mono BR.out.size))
      clear hW1 hq1 c0 c1 c2 c3 c4 ROW BR
      go_wp2_with fail
      refine (HLA.out w1 H1.out).mono ?_
      rintro e w2 ⟨⟨pa, pc, P, rfl, hP, hp⟩, hb2⟩
      have PP := hidM hP
      have HP := hidM hp
      have R2 := hidM (R1.out.bel hb2)
      have B2 := hidM (B1.out.trans (hb2.mono B1.out.size))
      have hPl : P.length ≤ 64000 := by have := congrArg List.length hp; rw [List.length_map] at this; rw [this]; exact HAR.out.1
      have hMl : M.length ≤ 1024000 := by have := congrArg List.length HM.out; rw [List.length_map] at this; rw [this]; exact (HB.out k).1
      have hs2 := hb2.size
      have hs1 := H1.out.size
      clear hP hp hb2 b0 b1 b2 b3 b4 R1 B1 HLA H1
      go_wp2_with fail
      go_loopw [27, 5] (fun iv sv wr => ∃ (j : Nat) (ja : Option Addr) (jc : Nat) (N : List ItX), iv = .int .i64 (j : Int) ∧ j ≤ P.length ∧ sv = .slice ja N.length jc ∧ N.map Prod.fst = M.map Prod.fst ++ (P.take j).map (fun y => (⟨(k : Int), y.1.tags⟩ : It)) ∧ Iw wr w.heap.size w.heap.size ja jc N ∧ MO wr w.heap.size w.heap.size pa pc P ∧ Below w.heap.size w wr) (fun iv _ _ => P.length - (intOf iv).toNat)
      case atStart => exact ⟨0, ia, ic, M, rfl, Nat.zero_le _, rfl, by simp, R2.out, ⟨owns_base PP.out.row (by omega), fun x hx => (PP.out.all x hx).lower (by omega)⟩, B2.out⟩
      case round =>
        obtain ⟨j, ja, jc, N, rfl, hjl, rfl, hN, hIO, hMO, hb⟩ := hrel
        have HN := hidM hN
        have RR := hidM hIO
        have PR := hidM hMO
        have BB := hidM hb
        have hNl : N.length ≤ 1088000 := by have := congrArg List.length hN; rw [List.length_map, List.length_append, List.length_map, List.length_map, List.length_take] at this; omega
        have hsr2 := hb.size
        clear hN hIO hMO hb
        by_cases hj : j < P.length
        · obtain ⟨y, hy⟩ : ∃ y, P[j]? = some y := ⟨P[j], by simp [hj]⟩
          have HMT := hidM (map_take (fun y : PmX => (⟨(k : Int), y.1.tags⟩ : It)) hy)
          obtain ⟨⟨tg, bd⟩, tv, bv⟩ := y
          obtain ⟨lb, rfl, hlb, y0, y1⟩ := PR.out.get hy
          obtain ⟨⟨ta, tc, e1⟩, ⟨ba, bc, e2⟩, hot, _⟩ := PR.out.all _ (List.mem_of_getElem? hy)
          simp only at e1 e2 hot y0 y1 HMT
          subst e1 e2
          have OT := hidM hot
          have z2 : (0 : Int) ≤ (j : Int) := by omega
          have z3 : (j : Int) < (P.length : Int) := by omega
          clear hy hot
          go_upto_region 9 with fail
          refine lift_alloc ?_
          intro w4 hW4 hq4
          obtain ⟨f0, f1⟩ := cells2M hq4
          have R4 := hidM (RR.out.bel hW4)
          have P4 := hidM (PR.out.bel hW4)
          have B4 := hidM (BB.out.trans (hW4.mono BB.out.size))
          have OT4 := hidM (own_bel OT.out hW4)
          have NX := hidM (show ItP w4 w.heap.size (⟨(k : Int), tg⟩, .slice ta tg.length tc) from ⟨⟨ta, tc, rfl⟩, OT4.out⟩)
          have HW4 := hidM (fun o' => (Below.refl _ _).alloc (Nat.le_refl _) o' : ∀ o', Below w4.heap.size w4 (w4.alloc o'))
          have hs4 := hW4.size
          clear hW4 hq4 y0 y1 OT OT4 RR PR BB
          go_wp2_with (first | (at_builtin; refine wpList_append_any (by rfl) (.tmp 31) (.tmp 36) 29 (by rfl) w.heap.size 46 _ 2 32 Tryz.underlying29 infoItF (by rfl) (by omega) _ N.length _ (by rfl) (own_bel R4.out.row (HW4.out _)) (some ⟨_, 0, none⟩) 1 1 (by rfl) (itCells (⟨(k : Int), tg⟩, .slice ta tg.length tc)) (by rfl) (fun e => by cases e) (news_new _ _ _ _ (by simp)) (itCells_one NX.out) (by unfold maxLen; omega) (by omega) (by simp; omega) ?_; intro a3 c3 w8 ho3 hg3 hl3) | fail)
          have R8 := hidM (Iw.snoc (R4.out.bel (HW4.out _)) (NX.out.bel (HW4.out _)) ho3.out hg3.out)
          have TY := hidM (fun o g hg => own_type (own_bel R4.out.row (HW4.out o)) (k := g) hg)
          have P8 := hidM (show MO w8 w.heap.size w.heap.size (some ⟨lb, 0, none⟩) pc P from ⟨own_grown (own_bel P4.out.row (HW4.out _)) hg3.out (TY.out _) (by decide), fun x hx => ((P4.out.all x hx).bel (HW4.out _)).grown hg3.out (TY.out _) (by decide) (by decide)⟩)
          have B8 := hidM ((B4.out.trans ((HW4.out _).mono B4.out.size)).grown hg3.out (by simp; omega) (fun g hg => (R4.out.row.lt g hg).1))
          clear ho3 hg3 hl3 TY
          go_roundw
          case rel => exact ⟨j + 1, a3, c3, _, by go_num, by omega, by simp, by rw [List.map_append, HN.out, HMT.out, ← List.append_assoc]; rfl, R8.out, P8.out, B8.out⟩
          case measure => (simp [intOf]; omega)
        · have hje : j = P.length := by omega
          have hy : ¬ (j : Int) < (P.length : Int) := by omega
          have HN2 := hidM (show N.map Prod.fst = confGo fs 0 (rs.take (k + 1)) by
            rw [HN.out, HM.out, HCT.out, hje, List.take_length, ← HP.out, List.map_map]
            rfl)
          clear hje
          go_wp2_with fail
          go_roundw
          case rel => exact ⟨k + 1, ja, jc, N, by go_num, by omega, rfl, HN2.out, RR.out, BB.out⟩
          case measure => (simp [intOf]; omega)
    · have hke : k = rs.length := by omega
      have hy : ¬ (k : Int) < (rs.length : Int) := by omega
      have HM2 := hidM (show confGo fs 0 rs = M.map Prod.fst by rw [HM.out, hke, List.take_length])
      clear hke
      go_wp2_with fail
      go_ret
      exact CmPost.mk HM2.out ROW.out BR.out
set_option maxHeartbeats 1600000 in
theorem sConflict_any (rs : List Ru) (fs : List F) (a : Option Addr) (c : Nat) (fa : Option Addr) (fc : Nat) {q : Option Nat} (w : World) (hv : RusAt q w a rs) (hc : rs.length ≤ c) (hle : ListLe Ru.le 1048576 rs) (ho : ∀ x ∈ rs, OpsOk x.exprs) (hf : FactsAt w fa fs) (hl : fs.length ≤ 1048576) (hs : ∀ f ∈ fs, Sized f) :
    Calls Tryz.prog 15 #[.slice a rs.length c, .slice fa fs.length fc] w (CmPost (confM rs fs) w) := by
  have HR := hidM (l4Ready_any rs fs a c fa fc w hv hc hle ho hf hl hs)
  by_cases hrd : ready rs fs = true
  · have HC := hidM (fun w' (h : Below w.heap.size w w') => l4Conflict_any rs fs a c fa fc w' (hv.below h) (hf.below h) hrd)
    have HE := hidM (show confM rs fs = confGo fs 0 rs from if_pos hrd)
    rw [hrd] at HR
    clear hv hf hle ho hs hrd
    go_enter Tryz.func15, Tryz.ntmps15
    go_wp2_with fail
    refine HR.out.mono ?_
    rintro e w1 ⟨rfl, hb1⟩
    have B1 := hidM hb1
    clear hb1 HR
    go_wp2_with fail
    refine (HC.out w1 B1.out).mono ?_
    rintro e w2 ⟨⟨a2, c2, M2, rfl, hi, hm⟩, hb2⟩
    have B2 := hidM (B1.out.trans (hb2.mono B1.out.size))
    have HI := hidM (hi.lower B1.out.size B1.out.size)
    have HM := hidM (show confM rs fs = M2.map Prod.fst by rw [HE.out, hm])
    clear hi hm hb2 HC
    go_wp2_with fail
    go_ret
    exact CmPost.mk HM.out HI.out B2.out
  · have HE := hidM (show confM rs fs = [] from if_neg hrd)
    rw [show ready rs fs = false by simpa using hrd] at HR
    clear hv hf hle ho hs hrd
    go_enter Tryz.func15, Tryz.ntmps15
    go_wp2_with fail
    refine HR.out.mono ?_
    rintro e w1 ⟨rfl, hb1⟩
    have B1 := hidM hb1
    clear hb1 HR
    go_wp2_with fail
    go_ret
    exact CmPost.nil HE.out B1.out
end Go.Proofs.YtmmdlgjmplddiaaGreat

namespace Go.Proofs.YtmmdlgjmplddiaaGreat
open Go.RowKit
attribute [local go_sem ↓] Go.wp_at_zero Go.wp_at_succ

/-- What the law's loops read: it lies where it lay, whatever is made. -/
structure MW (u : World) (sb nb : Nat) (ra fa oa ma : Option Addr) (fc oc mc : Nat) (rs : List Ru) (fs : List F) (O Mm : List (List Int)) : Prop where
  sb : u.cell? ⟨sb, 0, none⟩ = some (.slice fa fs.length fc)
  nb : u.cell? ⟨nb, 1, none⟩ = some (.slice oa O.length oc)
  rus : RusAt none u ra rs
  fcs : FactsAt u fa fs
  of : IssAt u oa O
  mem : IssAt u ma Mm
theorem MW.below {u v : World} {sb nb : Nat} {ra fa oa ma : Option Addr} {fc oc mc : Nat} {rs : List Ru} {fs : List F} {O Mm : List (List Int)} (h : MW u sb nb ra fa oa ma fc oc mc rs fs O Mm) (hb : Below u.heap.size u v) : MW v sb nb ra fa oa ma fc oc mc rs fs O Mm :=
  ⟨cell_below hb h.sb, cell_below hb h.nb, h.rus.below hb, h.fcs.below hb, h.of.below hb, h.mem.below hb⟩
/-- The net's numbers and the memories, together. -/
def NMk (rs : List Ru) (fs : List F) (O Mm : List (List Int)) : Prop := ∀ (i : Nat) (r : Ru), rs[i]? = some r → ∃ row, O[i]? = some row ∧ row.length = r.pats.length ∧ ∀ (j : Nat) (p : Pt), r.pats[j]? = some p → ∃ a : Nat, row[j]? = some (a : Int) ∧ Mm[a]? = some (memOf (alphaOf p) fs)
theorem lt_cell {w : World} {b o : Nat} {v : Value} (h : w.cell? ⟨b, o, none⟩ = some v) : b < w.heap.size := World.block_lt_of_cell? w ⟨b, o, none⟩ h
theorem net_small {rs : List Ru} (hk : (chk rs).1 = 0) (hl : rs.length ≤ 8) : (netOf rs).als.length ≤ 1048576 ∧ ∀ x ∈ (netOf rs).als, x.tests.length ≤ 1048576 := by
  have e : netOf rs = ⟨(netA [] rs).1, (netA [] rs).2⟩ := if_pos hk
  rw [e]
  constructor
  · have := netA_grow rs [] (fun r hr => (shape_pats ((chk_each hk).2 r hr).1).1)
    simp at this
    show (netA [] rs).1.length ≤ 1048576
    omega
  · intro x hx
    obtain ⟨p, rfl⟩ := netA_from rs (A := []) (fun x hx => by simp at hx) x hx
    have := alphaOf_len p
    omega
theorem pos_take {l : List Pt} {j : Nat} {p : Pt} (h : l[j]? = some p) : positives (l.take (j + 1)) = positives (l.take j) + (if p.neg then 0 else 1) := by
  unfold positives
  rw [List.take_add_one, h, List.countP_append]
  cases hn : p.neg <;> simp [pos1, hn]
theorem cells5 {w : World} {b : Nat} {ty : TypeId} {x0 x1 x2 x3 x4 : Value} (h : w.heap[b]? = some (.cells #[x0, x1, x2, x3, x4] ty (0, 0))) : w.cell? ⟨b, 2, none⟩ = some x2 := by simp [World.cell?, h]
theorem cells3' {w : World} {b : Nat} {ty : TypeId} {x0 x1 x2 : Value} (h : w.heap[b]? = some (.cells #[x0, x1, x2] ty (0, 0))) : w.cell? ⟨b, 0, none⟩ = some x0 ∧ w.cell? ⟨b, 1, none⟩ = some x1 ∧ w.cell? ⟨b, 2, none⟩ = some x2 := by
  refine ⟨?_, ?_, ?_⟩ <;> simp [World.cell?, h]
theorem cells2' {w : World} {b : Nat} {ty : TypeId} {x0 x1 : Value} (h : w.heap[b]? = some (.cells #[x0, x1] ty (0, 0))) : w.cell? ⟨b, 0, none⟩ = some x0 ∧ w.cell? ⟨b, 1, none⟩ = some x1 := by
  refine ⟨?_, ?_⟩ <;> simp [World.cell?, h]
set_option maxRecDepth 100000 in
set_option maxHeartbeats 12800000 in
theorem law_alpha (a : Option Addr) (n c : Nat) (w : World) (h : ByA w a n) : Calls Tryz.prog 4 #[.slice a n c] w fun e w' => e = .returned (.bool true) ∧ Below w.heap.size w w' := by
  by_cases hn : n ≤ 1048576
  rotate_left
  · have hnI : (1048576 : Int) < (n : Int) := by omega
    clear h
    go_enter Tryz.func4, Tryz.ntmps4
    go_wp2_with fail
    go_ret
    exact ⟨rfl, Below.refl _ _⟩
  have hnI : ¬ (1048576 : Int) < (n : Int) := by omega
  have HD := hidR (DrawWorld_any a n c 10 w h hn (by omega))
  clear h
  go_enter Tryz.func4, Tryz.ntmps4
  go_wp2_with fail
  refine HD.out.mono ?_
  rintro e w1 ⟨ra, rc, rs, fa, fc, fs, nx, cp, sg, rfl, hRS, hFS, hru, hrc, hfa, hfc, hb1⟩
  have RS := hidR hRS
  have FSo := hidR hFS
  have RU1 := hidR hru
  have FA1 := hidR hfa
  have B1 := hidR hb1
  have hs1 := hb1.size
  have hr8 := hRS.len.2
  have hf10 := hFS.len
  clear hRS hFS hru hfa hb1 HD
  unfold stV
  go_upto_region 4 with fail
  refine lift_alloc ?_
  intro w2 hW2 hsb
  have SB2 := hidR (show TB w2 w1.heap.size fa fs.length fc nx cp sg from hsb)
  have RU2 := hidR (RU1.out.below hW2)
  have FA2 := hidR (FA1.out.below hW2)
  have B2 := hidR (B1.out.trans (hW2.mono hs1))
  have hs2 := hW2.size
  clear hW2 hsb RU1 FA1 B1
  go_wp2_with fail
  refine (iAlphaNet_any rs ra rc w2 RU2.out hrc RS.out.le RS.out.ops RS.out.vok).mono ?_
  rintro e w3 ⟨⟨aa, ac, oa, oc, L, vs, rfl, hLA, hAO, _, hOL⟩, hb3⟩
  have hck : (chk rs).1 = 0 := by rw [RS.out.chk]
  have hOl := netOf_len hck
  have AL3 := hidR (show AlsAt none w3 aa (netOf rs).als by rw [← hLA]; exact hAO.at)
  have OF3 := hidR (OLL.at hOL)
  have SB3 := hidR (show TB w3 w1.heap.size fa fs.length fc nx cp sg from (hb3.block _ (lt_of_block' SB2.out)).trans SB2.out)
  have RU3 := hidR (RU2.out.below hb3)
  have FA3 := hidR (FA2.out.below hb3)
  have B3 := hidR (B2.out.trans (hb3.mono (by omega)))
  have hs3 := hb3.size
  have NA := hidR (fun i r (h : rs[i]? = some r) => netOf_at hck h)
  obtain ⟨hal, hat⟩ := net_small hck hr8
  have HAT := hidR hat
  have ML := hidR (mems_len (xs := (netOf rs).als) FSo.out.good)
  have MA := hidR (fun a x (h : (netOf rs).als[a]? = some x) => mems_at (fs := fs) FSo.out.good h)
  rw [hOl]
  have HCK := hidR hck
  clear hb3 hLA hAO hOL SB2 RU2 FA2 B2 hat hck
  go_upto_region 5 with fail
  refine lift_alloc ?_
  intro w4 hW4 hnb
  have NB4 := hidR hnb
  have SB4 := hidR (show TB w4 w1.heap.size fa fs.length fc nx cp sg from (hW4.block _ (lt_of_block' SB3.out)).trans SB3.out)
  have AL4 := hidR (AL3.out.below hW4)
  have OF4 := hidR (OF3.out.below hW4)
  have RU4 := hidR (RU3.out.below hW4)
  have FA4 := hidR (FA3.out.below hW4)
  have B4 := hidR (B3.out.trans (hW4.mono (by omega)))
  have hs4 := hW4.size
  clear hW4 hnb SB3 AL3 OF3 RU3 FA3 B3
  obtain ⟨n0, n1⟩ := cells2' NB4.out
  obtain ⟨⟨s0, s1, s2, s3⟩, _, hsbl⟩ := SB4.out.facts
  have hnbl : w3.heap.size < w4.heap.size := lt_cell n0
  go_wp2_with fail
  refine (iMems_any (netOf rs).als aa ac oa rs.length oc fa fc fs w4 AL4.out FA4.out HAT.out hal (by omega) (fun u hu => goodFacts_any fa fc fs u (FA4.out.below hu) (by omega) FSo.out.sized)).mono ?_
  rintro e w5 ⟨⟨ma, mc, vs2, rfl, hOM⟩, hb5⟩
  obtain ⟨O, hO⟩ : ∃ O, O = (netOf rs).of := ⟨_, rfl⟩
  obtain ⟨Mm, hMm⟩ : ∃ Mm, Mm = mems (netOf rs).als fs := ⟨_, rfl⟩
  have MW5 := hidR (show MW w5 w1.heap.size w3.heap.size ra fa oa ma fc oc mc rs fs O Mm from ⟨cell_below hb5 s0, by rw [hO, hOl]; exact cell_below hb5 n1, RU4.out.below hb5, FA4.out.below hb5, by rw [hO]; exact OF4.out.below hb5, by rw [hMm]; exact OLL.at hOM⟩)
  have NM := hidR (show NMk rs fs O Mm from fun i r hr => by
    obtain ⟨row, h1, h2, h3⟩ := NA.out i r hr
    refine ⟨row, by rw [hO]; exact h1, h2, fun j p hp => ?_⟩
    obtain ⟨x, h4, h5⟩ := h3 j p hp
    exact ⟨x, h4, by rw [hMm]; exact MA.out x _ h5⟩)
  have B5 := hidR (B4.out.trans (hb5.mono (by omega)))
  have hs5 := hb5.size
  have n0' := cell_below hb5 n0
  have n1' := cell_below hb5 n1
  have hMl : Mm.length = (netOf rs).als.length := by rw [hMm]; exact ML.out
  have hOl' : O.length = rs.length := by rw [hO]; exact hOl
  rw [ML.out]
  clear hb5 hOM s0 s1 s2 s3 n0 n1 SB4 NB4 AL4 OF4 RU4 FA4 B4 NA MA ML HAT hO hMm hOl
  go_wp2_with fail
  clear n0' n1'
  go_loopw [55] (fun iv wr => ∃ i : Nat, iv = .int .i64 (i : Int) ∧ i ≤ rs.length ∧ Below w5.heap.size w5 wr) (fun iv _ => (20 - intOf iv).toNat)
  case atStart => exact ⟨0, rfl, by omega, Below.refl _ _⟩
  case round =>
    obtain ⟨i, rfl, hir, hbr⟩ := hrel
    have BR := hidR hbr
    have hsr := hbr.size
    clear hbr
    by_cases hi : i < rs.length
    · have hiI : (i : Int) < (rs.length : Int) := by omega
      have hi0 : (0 : Int) ≤ (i : Int) := by omega
      obtain ⟨r, hri⟩ : ∃ r, rs[i]? = some r := ⟨rs[i], by simp [hi]⟩
      obtain ⟨row, hrow, hrl, hrj⟩ := NM.out i r hri
      obtain ⟨rb, ro, pa, pc, ea, ec, xa, xc, rfl, _, c0, c1, c2, c3, c4, hpt, _⟩ := (MW5.out.below BR.out).rus.get hri
      have hrbl := lt_cell c0
      have PT := hidR hpt
      have HRW := hidR hrow
      have HRJ := hidR hrj
      have hp6 : r.pats.length ≤ 6 := (shape_pats ((chk_each HCK.out).2 r (List.mem_of_getElem? hri)).1).1
      have HLE := hidR (RS.out.le.2 r (List.mem_of_getElem? hri))
      clear hri hrow hrj hpt
      go_upto_region 11 with fail
      refine lift_alloc ?_
      intro w6 hW6 hqb
      have q2 := cells5 hqb
      have B6 := hidR (BR.out.trans (hW6.mono hsr))
      have PT6 := hidR (PT.out.below hW6)
      have hs6 := hW6.size
      have hql : wr.heap.size < w6.heap.size := lt_cell q2
      clear hW6 hqb c0 c1 c2 c3 c4 PT BR
      go_wp2_with fail
      clear q2
      go_loopw [63] (fun kv wr => ∃ k : Nat, kv = .int .i64 (k : Int) ∧ k ≤ r.pats.length ∧ Below w6.heap.size w6 wr) (fun kv _ => (20 - intOf kv).toNat)
      case atStart => exact ⟨0, rfl, by omega, Below.refl _ _⟩
      case round =>
        obtain ⟨wk, rfl⟩ : ∃ v, v = wr := ⟨wr, rfl⟩
        obtain ⟨k, rfl, hkr, hbk⟩ := hrel
        have BK := hidR hbk
        have hsk := hbk.size
        clear hbk
        by_cases hk : k < r.pats.length
        · have hkI : (k : Int) < (r.pats.length : Int) := by omega
          have hk0 : (0 : Int) ≤ (k : Int) := by omega
          obtain ⟨p, hpk⟩ : ∃ p, r.pats[k]? = some p := ⟨r.pats[k], by simp [hk]⟩
          obtain ⟨x, hrk, hmx⟩ := HRJ.out k p hpk
          obtain ⟨pb, po, ta, tc, rfl, _, c0, c1, c2, htm⟩ := (PT6.out.below BK.out).get hpk
          have hpbl := lt_cell c0
          have TM := hidR htm
          have HMX := hidR hmx
          have HRK := hidR hrk
          have HPL := hidR (HLE.out.2.1.2 p (List.mem_of_getElem? hpk))
          clear hpk hrk hmx htm
          go_upto_region 14 with fail
          refine lift_alloc ?_
          intro w7 hW7 hpx
          have PX7 := hidR (cells3' hpx)
          have B7 := hidR (BK.out.trans (hW7.mono hsk))
          have TM7 := hidR (TM.out.below hW7)
          have hs7 := hW7.size
          have hpxl : wk.heap.size < w7.heap.size := lt_of_block' hpx
          clear hW7 hpx c0 c1 c2 TM BK
          have MW7 := hidR ((MW5.out.below B6.out).below B7.out)
          obtain ⟨ob, oo, ia, ic, rfl, d0, hin⟩ := MW7.out.of i row HRW.out
          obtain ⟨ib, io, rfl, _, d1⟩ := hin.get HRK.out
          have n1 := MW7.out.nb
          have s0 := MW7.out.sb
          have hnl := lt_cell n1
          have hsl := lt_cell s0
          have hobl := lt_cell d0
          have hibl := lt_cell d1
          have hiO : (i : Int) < (O.length : Int) := by omega
          have hkR : (k : Int) < (row.length : Int) := by omega
          clear hin
          go_wp2_with fail
          clear n1 s0 d0 d1
          go_loopw [79] (fun mv wr => ∃ m : Nat, mv = .int .i64 (m : Int) ∧ m ≤ fs.length ∧ Below w7.heap.size w7 wr) (fun mv _ => (20 - intOf mv).toNat)
          case atStart => exact ⟨0, rfl, by omega, Below.refl _ _⟩
          case round =>
            obtain ⟨wm, rfl⟩ : ∃ v, v = wr := ⟨wr, rfl⟩
            obtain ⟨m, rfl, hmf, hbm⟩ := hrel
            have BM := hidR hbm
            have hsm := hbm.size
            clear hbm
            by_cases hm : m < fs.length
            · have hmI : (m : Int) < (fs.length : Int) := by omega
              have hm0 : (0 : Int) ≤ (m : Int) := by omega
              obtain ⟨f, hfm⟩ : ∃ f, fs[m]? = some f := ⟨fs[m], by simp [hm]⟩
              obtain ⟨fb, fo, rfl, hfbl, c0, c1, sa, sc, c2, hva⟩ := (MW7.out.below BM.out).fcs.getM hfm
              have VA := hidR hva
              have HFM := hidR (List.mem_of_getElem? hfm)
              clear hfm hva
              go_upto_region 18 with fail
              refine lift_alloc ?_
              intro w8 hW8 hfx
              have FX8 := hidR (cells3' hfx)
              have B8 := hidR (BM.out.trans (hW8.mono hsm))
              have VA8 := hidR (VA.out.below hW8)
              have hs8 := hW8.size
              have hfxl : wm.heap.size < w8.heap.size := lt_of_block' hfx
              clear hW8 hfx c0 c1 c2 VA BM
              obtain ⟨mb, mo, ja, jc, rfl, d0, hjn⟩ := (MW7.out.below B8.out).mem x _ HMX.out
              have JN := hidR hjn
              have hmbl := lt_cell d0
              have hxM : x < Mm.length := (List.getElem?_eq_some_iff.1 HMX.out).1
              have hxI : (x : Int) < ((netOf rs).als.length : Int) := by omega
              have hx0 : (0 : Int) ≤ (x : Int) := by omega
              obtain ⟨mem, hmem⟩ : ∃ mem, mem = memOf (alphaOf p) fs := ⟨_, rfl⟩
              have hml := memOf_len (alphaOf p) fs
              have HT := hidR (hasT_mem FSo.out.good HFM.out (alphaOf p))
              rw [← hmem] at d0 JN hml HT
              have HME := hidR hmem
              clear hjn hmem
              go_wp2_with fail
              clear d0
              go_loopw [14, 88] (fun bv tv wr => ∃ t : Nat, tv = .int .i64 (t : Int) ∧ t ≤ mem.length ∧ bv = .bool (hasT f.tag (mem.take t)) ∧ wr = w8) (fun _ tv _ => (20 - intOf tv).toNat)
              case atStart => exact ⟨0, rfl, by omega, by simp [hasT], rfl⟩
              case round =>
                obtain ⟨t, rfl, htm, rfl, rfl⟩ := hrel
                by_cases ht : t < mem.length
                · have htI : (t : Int) < (mem.length : Int) := by omega
                  have ht0 : (0 : Int) ≤ (t : Int) := by omega
                  obtain ⟨y, hy⟩ : ∃ y, mem[t]? = some y := ⟨mem[t], by simp [ht]⟩
                  have HS := hidR (hasT_snoc (tag := f.tag) hy)
                  obtain ⟨jb, jo, rfl, _, e0⟩ := JN.out.get hy
                  have hjbl := lt_cell e0
                  have g0 := FX8.out.1
                  clear hy
                  cases hin : hasT f.tag (mem.take t)
                  · go_wp2_with fail
                    go_roundw
                    case rel => exact ⟨t + 1, by go_num, by omega, by rw [HS.out, hin]; simp, by first | trivial | rfl⟩
                    case measure => (simp [intOf]; omega)
                  · go_wp2_with fail
                    go_roundw
                    case rel => exact ⟨t + 1, by go_num, by omega, by rw [HS.out, hin]; simp, by first | trivial | rfl⟩
                    case measure => (simp [intOf]; omega)
                · have htI : ¬ (t : Int) < (mem.length : Int) := by omega
                  have htE : t = mem.length := by omega
                  subst htE
                  rw [List.take_length, HT.out]
                  have HPX := hidR (show (wr.cell? ⟨wk.heap.size, 0, none⟩ = some (.bool p.neg) ∧ wr.cell? ⟨wk.heap.size, 1, none⟩ = some (.string p.cls) ∧ wr.cell? ⟨wk.heap.size, 2, none⟩ = some (.slice ta p.terms.length tc)) from ⟨cell_below B8.out PX7.out.1, cell_below B8.out PX7.out.2.1, cell_below B8.out PX7.out.2.2⟩)
                  have CS := hidR (fun u (hu : Below wr.heap.size wr u) => (show u.cell? ⟨wk.heap.size, 0, none⟩ = some (.bool p.neg) ∧ u.cell? ⟨wk.heap.size, 1, none⟩ = some (.string p.cls) ∧ u.cell? ⟨wk.heap.size, 2, none⟩ = some (.slice ta p.terms.length tc) ∧ u.cell? ⟨wm.heap.size, 0, none⟩ = some (.int .i64 f.tag) ∧ u.cell? ⟨wm.heap.size, 1, none⟩ = some (.string f.cls) ∧ u.cell? ⟨wm.heap.size, 2, none⟩ = some (.slice sa f.slots.length sc) from ⟨cell_below hu HPX.out.1, cell_below hu HPX.out.2.1, cell_below hu HPX.out.2.2, cell_below hu FX8.out.1, cell_below hu FX8.out.2.1, cell_below hu FX8.out.2.2⟩))
                  have CSd := hidR (CS.out _ (Below.refl _ _).drew)
                  have TMd := hidR ((TM7.out.below B8.out).below (Below.refl _ _).drew)
                  have hpc : p.cls.size ≤ maxLen := by have := HPL.out.1; unfold maxLen; omega
                  have hpl : p.terms.length ≤ 1048576 := HPL.out.2.1
                  have HPT := hidR (show ListLe Tm.le maxLen p.terms from ⟨by unfold maxLen; omega, fun q hq => ⟨by have := (HPL.out.2.2 q hq).1; unfold maxLen; omega, by have := (HPL.out.2.2 q hq).2; unfold maxLen; omega⟩⟩)
                  have h6 := alphaOf_len p
                  cases hps : passes (alphaOf p) f
                  all_goals
                    go_wp2_with fail
                    go_region_held3 (fun u => u.cell? ⟨wk.heap.size, 0, none⟩ = some (.bool p.neg) ∧ u.cell? ⟨wk.heap.size, 1, none⟩ = some (.string p.cls) ∧ u.cell? ⟨wk.heap.size, 2, none⟩ = some (.slice ta p.terms.length tc) ∧ u.cell? ⟨wm.heap.size, 0, none⟩ = some (.int .i64 f.tag) ∧ u.cell? ⟨wm.heap.size, 1, none⟩ = some (.string f.cls) ∧ u.cell? ⟨wm.heap.size, 2, none⟩ = some (.slice sa f.slots.length sc)) (first | with_reducible exact CS10.out | with_reducible exact CS9.out | with_reducible exact CSd.out) (first | (go_at_call 14; refine (sAlphaOf_any p ta tc _ TMd.out hpc HPT.out hpl).mono ?_; rintro e w9 ⟨⟨a9, c9, rfl, ho9⟩, hb9⟩; have O9 := hidR (TtsAt.owns ho9); have B9 := hidR ((Below.refl wr.heap.size wr).drew.trans hb9); have CS9 := hidR (CS.out _ B9.out); have hs9 := B9.out.size; clear ho9 hb9) | (go_at_call 13; refine (sPass_any (alphaOf p) a9 c9 f sa sc w9 O9.out (VA8.out.below B9.out) (by omega)).mono ?_; rintro e w10 ⟨he, hb10⟩; rw [hps] at he; subst he; have B10 := hidR (B9.out.trans (hb10.mono hs9)); have CS10 := hidR (CS.out _ B10.out); clear hb10) | fail)
                    go_wp2_with fail
                    go_roundw
                    case rel => exact ⟨m + 1, by go_num, by omega, B8.out.trans (B10.out.mono (by omega))⟩
                    case measure => (simp [intOf]; omega)
            · have hmI : ¬ (m : Int) < (fs.length : Int) := by omega
              go_wp2_with fail
              go_roundw
              case rel => exact ⟨k + 1, by go_num, by omega, B7.out.trans (BM.out.mono (by omega))⟩
              case measure => (simp [intOf]; omega)
        · have hkI : ¬ (k : Int) < (r.pats.length : Int) := by omega
          go_wp2_with fail
          go_roundw
          case rel => exact ⟨i + 1, by go_num, by omega, B6.out.trans (BK.out.mono (by omega))⟩
          case measure => (simp [intOf]; omega)
    · have hiI : ¬ (i : Int) < (rs.length : Int) := by omega
      have MWr := hidR (MW5.out.below BR.out)
      have s0 := MWr.out.sb
      have hsl := lt_cell s0
      go_wp2_with fail
      refine (sConflict_any rs fs ra rc fa fc wr MWr.out.rus hrc RS.out.le RS.out.ops MWr.out.fcs (by omega) FSo.out.sized).mono ?_
      rintro e w6 ⟨⟨xa, xc, X, rfl, hIO, hXm⟩, hb6⟩
      have IX := hidR hIO
      have HXC := hidR (fun y (hy : y ∈ X) => conf_mem (x := y.1) (fs := fs) HCK.out (by rw [← hXm]; exact List.mem_map.2 ⟨y, hy, rfl⟩))
      have hXl : X.length ≤ 1024000 := by have := (conf_bound rs fs).1; rw [← hXm] at this; simpa using this
      have B6 := hidR (BR.out.trans (hb6.mono hsr))
      have hs6 := hb6.size
      clear hIO hXm hb6 s0 MWr BR
      go_wp2_with fail
      go_loopw [114] (fun zv wr => ∃ z : Nat, zv = .int .i64 (z : Int) ∧ z ≤ X.length ∧ Below w6.heap.size w6 wr) (fun zv _ => ((X.length : Int) - intOf zv).toNat)
      case atStart => exact ⟨0, rfl, by omega, Below.refl _ _⟩
      case round =>
        obtain ⟨wz, rfl⟩ : ∃ v, v = wr := ⟨wr, rfl⟩
        obtain ⟨z, rfl, hzX, hbz⟩ := hrel
        have BZ := hidR hbz
        have hsz := hbz.size
        clear hbz
        by_cases hz : z < X.length
        · have hzI : (z : Int) < (X.length : Int) := by omega
          have hz0 : (0 : Int) ≤ (z : Int) := by omega
          obtain ⟨y, hyz⟩ : ∃ y, X[z]? = some y := ⟨X[z], by simp [hz]⟩
          have IZ := hidR (IX.out.bel BZ.out)
          obtain ⟨xk, rfl, _, hxk, c0, c1, _⟩ := IZ.out.get hyz
          obtain ⟨⟨ga, gc, hy2⟩, hot⟩ := IZ.out.all y (List.mem_of_getElem? hyz)
          obtain ⟨q, r, hrq, hrl, htl, hpos⟩ := HXC.out y (List.mem_of_getElem? hyz)
          rw [hrl] at c0
          rw [hy2] at c1 hot
          have TG := hidR (IntsAt.owns hot)
          have HPS := hidR hpos
          have hq : q < rs.length := (List.getElem?_eq_some_iff.1 hrq).1
          have hqI : (q : Int) < (rs.length : Int) := by omega
          have hq0 : (0 : Int) ≤ (q : Int) := by omega
          obtain ⟨row, hrow, hrwl, hrj⟩ := NM.out q r hrq
          have HRW := hidR hrow
          have HRJ := hidR hrj
          have HRQ := hidR hrq
          have hp6 : r.pats.length ≤ 6 := (shape_pats ((chk_each HCK.out).2 r (List.mem_of_getElem? hrq)).1).1
          clear hyz hy2 hot hpos hrq hrow hrj hrl IZ
          go_upto_region 32 with fail
          refine lift_alloc ?_
          intro w7 hW7 hxb
          have XB7 := hidR (cells2' hxb)
          have B7 := hidR (BZ.out.trans (hW7.mono hsz))
          have TG7 := hidR (TG.out.below hW7)
          have hs7 := hW7.size
          have hxbl : wz.heap.size < w7.heap.size := lt_of_block' hxb
          clear hW7 hxb c0 c1 TG BZ
          have MW7 := hidR ((MW5.out.below B6.out).below B7.out)
          obtain ⟨rb, ro, pa, pc, ea, ec, xa', xc', rfl, _, d0, d1, d2, d3, d4, hpt, _⟩ := MW7.out.rus.get HRQ.out
          have PT7 := hidR hpt
          have hrbl := lt_cell d2
          have g0 := XB7.out.1
          clear d0 d1 d3 d4 hpt
          go_wp2_with fail
          clear d2 g0
          go_loopw [19, 125] (fun kv jv wr => ∃ j : Nat, jv = .int .i64 (j : Int) ∧ j ≤ r.pats.length ∧ kv = .int .i64 ((positives (r.pats.take j) : Nat) : Int) ∧ Below w7.heap.size w7 wr) (fun _ jv _ => (20 - intOf jv).toNat)
          case atStart => exact ⟨0, rfl, by omega, rfl, Below.refl _ _⟩
          case round =>
            obtain ⟨wj, rfl⟩ : ∃ v, v = wr := ⟨wr, rfl⟩
            obtain ⟨j, rfl, hjr, rfl, hbj⟩ := hrel
            have BJ := hidR hbj
            have hsj := hbj.size
            clear hbj
            obtain ⟨K, hK⟩ : ∃ K, K = positives (r.pats.take j) := ⟨_, rfl⟩
            have HK := hidR hK
            have hK6 : K ≤ 6 := by
              have h1 : K ≤ (r.pats.take j).length := by rw [hK]; exact List.countP_le_length
              have h2 := List.length_take_le j r.pats
              omega
            by_cases hj : j < r.pats.length
            · have hjI : (j : Int) < (r.pats.length : Int) := by omega
              have hj0 : (0 : Int) ≤ (j : Int) := by omega
              obtain ⟨p, hpj⟩ : ∃ p, r.pats[j]? = some p := ⟨r.pats[j], by simp [hj]⟩
              have HPT := hidR (pos_take hpj)
              rw [← hK] at HPT ⊢
              clear hK
              obtain ⟨pb, po, ta, tc, rfl, _, c0, c1, c2, _⟩ := (PT7.out.below BJ.out).get hpj
              have hpbl := lt_cell c0
              have HPJ := hidR hpj
              clear hpj
              go_upto_region 36 with fail
              refine lift_alloc ?_
              intro w8 hW8 hpx
              have PX8 := hidR (cells3' hpx)
              have B8 := hidR (BJ.out.trans (hW8.mono hsj))
              have hs8 := hW8.size
              have hpxl : wj.heap.size < w8.heap.size := lt_of_block' hpx
              clear hW8 hpx c0 c1 c2 BJ
              have p0 := PX8.out.1
              cases hng : p.neg
              · rw [hng] at p0
                obtain ⟨x, hrk, hmx⟩ := HRJ.out j p HPJ.out
                obtain ⟨tg, htg, hhas⟩ := HPS.out j p HPJ.out hng
                rw [← HK.out] at htg
                have hKt : K < y.1.tags.length := (List.getElem?_eq_some_iff.1 htg).1
                have MW8 := hidR (MW7.out.below B8.out)
                obtain ⟨ob, oo, ia, ic, rfl, d0, hin⟩ := MW8.out.of q row HRW.out
                obtain ⟨ib, io, rfl, _, d1⟩ := hin.get hrk
                obtain ⟨mb, mo, ja, jc, rfl, d2, hjn⟩ := MW8.out.mem x _ hmx
                obtain ⟨tb, t0, rfl, _, d3⟩ := (TG7.out.below B8.out).get htg
                have JN := hidR hjn
                have n1 := MW8.out.nb
                have g0 := cell_below B8.out XB7.out.1
                have g1 := cell_below B8.out XB7.out.2
                have hnl := lt_cell n1
                have hobl := lt_cell d0
                have hibl := lt_cell d1
                have hmbl := lt_cell d2
                have htbl := lt_cell d3
                have hqO : (q : Int) < (O.length : Int) := by omega
                have hjR : (j : Int) < (row.length : Int) := by omega
                have hxM : x < Mm.length := (List.getElem?_eq_some_iff.1 hmx).1
                have hxI : (x : Int) < ((netOf rs).als.length : Int) := by omega
                have hx0 : (0 : Int) ≤ (x : Int) := by omega
                have hKI : (K : Int) < (y.1.tags.length : Int) := by omega
                have hK0 : (0 : Int) ≤ (K : Int) := by omega
                obtain ⟨mem, hmem⟩ : ∃ mem, mem = memOf (alphaOf p) fs := ⟨_, rfl⟩
                have hml := memOf_len (alphaOf p) fs
                rw [← hmem] at d2 JN hml hhas
                have HH := hidR hhas
                clear hjn hmem hin hrk hmx htg hhas
                go_wp2_with fail
                clear d0 d1 d2 n1 g0
                go_loopw [22, 145] (fun bv tv wr => ∃ t : Nat, tv = .int .i64 (t : Int) ∧ t ≤ mem.length ∧ bv = .bool (hasT tg (mem.take t)) ∧ wr = w8) (fun _ tv _ => (20 - intOf tv).toNat)
                case atStart => exact ⟨0, rfl, by omega, by simp [hasT], rfl⟩
                case round =>
                  obtain ⟨t, rfl, htm, rfl, rfl⟩ := hrel
                  by_cases ht : t < mem.length
                  · have htI : (t : Int) < (mem.length : Int) := by omega
                    have ht0 : (0 : Int) ≤ (t : Int) := by omega
                    obtain ⟨v, hv⟩ : ∃ v, mem[t]? = some v := ⟨mem[t], by simp [ht]⟩
                    have HS := hidR (hasT_snoc (tag := tg) hv)
                    obtain ⟨jb, jo, rfl, _, e0⟩ := JN.out.get hv
                    have hjbl := lt_cell e0
                    clear hv
                    cases hin : hasT tg (mem.take t)
                    · go_wp2_with fail
                      go_roundw
                      case rel => exact ⟨t + 1, by go_num, by omega, by rw [HS.out, hin]; simp, by first | trivial | rfl⟩
                      case measure => (simp [intOf]; omega)
                    · go_wp2_with fail
                      go_roundw
                      case rel => exact ⟨t + 1, by go_num, by omega, by rw [HS.out, hin]; simp, by first | trivial | rfl⟩
                      case measure => (simp [intOf]; omega)
                  · have htI : ¬ (t : Int) < (mem.length : Int) := by omega
                    have htE : t = mem.length := by omega
                    subst htE
                    rw [List.take_length, HH.out]
                    go_wp2_with fail
                    go_roundw
                    case rel => exact ⟨j + 1, by go_num, by omega, by rw [HPT.out, hng]; simp, B8.out⟩
                    case measure => (simp [intOf]; omega)
              · rw [hng] at p0
                go_wp2_with fail
                go_roundw
                case rel => exact ⟨j + 1, by go_num, by omega, by rw [HPT.out, hng]; simp, B8.out⟩
                case measure => (simp [intOf]; omega)
            · have hjI : ¬ (j : Int) < (r.pats.length : Int) := by omega
              go_wp2_with fail
              go_roundw
              case rel => exact ⟨z + 1, by go_num, by omega, B7.out.trans (BJ.out.mono (by omega))⟩
              case measure => (simp [intOf]; omega)
        · have hzI : ¬ (z : Int) < (X.length : Int) := by omega
          go_wp2_with fail
          go_ret
          exact ⟨rfl, (B5.out.trans (B6.out.mono (by omega))).trans (BZ.out.mono (by omega))⟩
end Go.Proofs.YtmmdlgjmplddiaaGreat
