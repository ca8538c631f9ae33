/-
  OUR OWN TEXT. Mm3, Mm4, Mm5, An7, Nd2, one behind the other.
-/
import Derived.Test.YtmmdlgjmplddiaaGreatGbn
import Derived.Test.YtmmdlgjmplddiaaGreatGbj
import Derived.Test.YtmmdlgjmplddiaaGreatGai
import Derived.Test.YtmmdlgjmplddiaaGreatGan
import Derived.Test.YtmmdlgjmplddiaaGreatGah
import Derived.Deep.RegionHeld3
namespace Go.Proofs.YtmmdlgjmplddiaaGreat
open Go.RowKit
attribute [local go_sem ↓] Go.wp_at_zero Go.wp_at_succ

theorem own_ne {a : Option Addr} {n c : Nat} {k : Nat} {w : World} {base : Nat} {e : TypeId} {m : Nat} {xs : List Value} (h : w.ownsRow base e m (.slice a n c) n xs) (hk : w.heap.size ≤ k) : (Value.slice a n c).ownBlock ≠ some k := fun e' => by
  have := (h.lt k e').2
  omega
set_option maxRecDepth 100000 in
set_option maxHeartbeats 12800000 in
theorem l4Next_any (p : Pt) (fs : List F) (L : List PmX) (a_t : Option Addr) (c_t : Nat) (fa : Option Addr) (fc : Nat) (pa : Option Addr) (pc : Nat) {q : Option Nat} {b1 base : Nat} (w : World) (h_t : TmsAt q w a_t p.terms) (h_f : FactsAt w fa fs) (h_p : MO w b1 base pa pc L) (hbs : base ≤ w.heap.size) (ht6 : p.terms.length ≤ 6) (hf40 : fs.length ≤ 40) (hL : L.length ≤ 200000000) (hX : ∀ x ∈ L, x.1.tags.length ≤ 900 ∧ x.1.binds.length ≤ 900) :
    Calls Tryz.prog 65 #[.agg #[.bool p.neg, .string p.cls, .slice a_t p.terms.length c_t], .slice fa fs.length fc, .slice pa L.length pc] w fun e w' => (∃ a c M, e = .returned (.slice a M.length c) ∧ MO w' w.heap.size base a c M ∧ M.map Prod.fst = nextM p fs (L.map Prod.fst)) ∧ Below w.heap.size w w' := by
  have HT := hidM h_t
  have HF := hidM h_f
  have HP := hidM h_p
  have HX := hidM hX
  clear h_t h_f h_p hX
  go_enter Tryz.func65, Tryz.ntmps65
  go_upto_region 1 with fail
  refine lift_alloc ?_
  intro w0 hW0 hq0
  obtain ⟨pb0, pb1, pb2⟩ := cells3M hq0
  have H0 := hidM hW0
  have hs0 := hW0.size
  have hl0 : w.heap.size < w0.heap.size := lt_of_block' hq0
  clear hW0 hq0
  go_wp2_with fail
  go_loopw [18, 7] (fun iv ov wr => ∃ (k : Nat) (a : Option Addr) (c : Nat) (M : List PmX), iv = .int .i64 (k : Int) ∧ k ≤ L.length ∧ ov = .slice a M.length c ∧ M.map Prod.fst = nextM p fs ((L.map Prod.fst).take k) ∧ MO wr w0.heap.size base a c M ∧ Below w0.heap.size w0 wr) (fun iv _ _ => L.length - (intOf iv).toNat)
  case atStart => exact ⟨0, none, 0, [], rfl, Nat.zero_le _, rfl, rfl, MO.nil _ _ _, Below.refl _ _⟩
  case round =>
    obtain ⟨k, a, c, M, rfl, hkl, rfl, hM, hMO, hb⟩ := hrel
    have HM := hidM hM
    have ROW := hidM hMO
    have HBB := hidM hb
    have HBW := hidM (H0.out.trans (hb.mono H0.out.size))
    have hsr := hb.size
    have hMl : M.length ≤ k * 41 := by
      have h1 := nextM_len p fs ((L.map Prod.fst).take k)
      have h2 := congrArg List.length hM
      simp at h1 h2
      have h3 : min k L.length * (fs.length + 1) ≤ k * 41 := Nat.mul_le_mul (Nat.min_le_left _ _) (by omega)
      omega
    clear hM hMO hb
    by_cases hk : k < L.length
    · obtain ⟨x, hx⟩ : ∃ x, L[k]? = some x := ⟨L[k], by simp [hk]⟩
      obtain ⟨⟨tg, bd⟩, tv, bv⟩ := x
      obtain ⟨lb, rfl, hlb, y0, y1⟩ := HP.out.get hx
      have hXx := HX.out _ (List.mem_of_getElem? hx)
      have PX := hidM (HP.out.all _ (List.mem_of_getElem? hx))
      obtain ⟨⟨ta, tc, e1⟩, ⟨ba, bc, e2⟩, hot, hob⟩ := PX.out
      simp only at e1 e2 hot hob y0 y1 hXx
      subst e1 e2
      obtain ⟨htl, hbl⟩ := hXx
      have OT := hidM hot
      have OB := hidM hob
      have HNS := hidM (nextM_snoc p fs (L.map Prod.fst) k ⟨tg, bd⟩ (by rw [List.getElem?_map, hx]; rfl))
      have x0 := cell_below HBW.out y0
      have x1 := cell_below HBW.out y1
      have z0 : (0 : Int) ≤ (k : Int) := by omega
      have z1 : (k : Int) < (L.length : Int) := by omega
      have hlr : lb < wr.heap.size := by omega
      clear hx y0 y1 hot hob
      go_upto_region 5 with fail
      refine lift_alloc ?_
      intro w2 hW2 hq2
      obtain ⟨pb, hpb⟩ : ∃ pb, pb = wr.heap.size := ⟨_, rfl⟩
      rw [← hpb] at hq2 ⊢
      have BX2 := hidM hq2
      have R2 := hidM (ROW.out.bel hW2)
      have D2 := hidM (HBB.out.trans (hW2.mono HBB.out.size))
      have N2 := hidM (own_ne ROW.out.row (Nat.le_of_eq hpb.symm))
      have hs2 := hW2.size
      have hl2 : pb < w2.heap.size := lt_of_block' hq2
      have hl2' : w0.heap.size ≤ pb := by omega
      clear hW2 hq2 x0 x1 ROW HBB HBW hlr hsr hpb
      go_wp2_with fail
      go_loopw [24, 7, 10] (fun jv ov av wq => ∃ (j : Nat) (a : Option Addr) (c : Nat) (M2 : List PmX) (g : Bool), jv = .int .i64 (j : Int) ∧ j ≤ fs.length ∧ ov = .slice a M2.length c ∧ av = .bool g ∧ g = anyH p ⟨tg, bd⟩ (fs.take j) ∧ M2.map Prod.fst = nextM p fs ((L.map Prod.fst).take k) ++ soFar p ⟨tg, bd⟩ (fs.take j) ∧ MO wq w0.heap.size base a c M2 ∧ (Value.slice a M2.length c).ownBlock ≠ some pb ∧ wq.heap[pb]? = some (.cells #[.slice ta tg.length tc, .slice ba bd.length bc] 91 (0, 0)) ∧ Below w0.heap.size w0 wq ∧ w2.heap.size ≤ wq.heap.size) (fun jv _ _ _ => fs.length - (intOf jv).toNat)
      case atStart => exact ⟨0, a, c, M, false, rfl, Nat.zero_le _, rfl, rfl, by simp [anyH, hits], by rw [HM.out, show soFar p ⟨tg, bd⟩ (fs.take 0) = [] by unfold soFar; simp [hits]]; simp, R2.out, N2.out, BX2.out, D2.out, Nat.le_refl _⟩
      case round =>
        obtain ⟨j, a, c, M2, g, rfl, hjl, rfl, rfl, hg, hM2, hMO, hne, hbx, hb, hwq⟩ := hrel
        obtain ⟨wq, rfl⟩ : ∃ v, v = wr := ⟨wr, rfl⟩
        have HM2 := hidM hM2
        have HG := hidM hg
        have Rq := hidM hMO
        have Nq := hidM hne
        have BXq := hidM hbx
        have Dq := hidM hb
        have HBW := hidM (H0.out.trans (hb.mono H0.out.size))
        have hM2l : M2.length ≤ k * 41 + 40 := by
          have h1 := nextM_len p fs ((L.map Prod.fst).take k)
          have h2 := congrArg List.length hM2
          have h4 := soFar_len p ⟨tg, bd⟩ (fs.take j)
          simp at h1 h2 h4
          have h3 : min k L.length * (fs.length + 1) ≤ k * 41 := Nat.mul_le_mul (Nat.min_le_left _ _) (by omega)
          omega
        obtain ⟨v0, v1⟩ := cells2M BXq.out
        clear hM2 hMO hne hbx hb R2 N2 BX2 D2 hg
        by_cases hj : j < fs.length
        · obtain ⟨f, hf⟩ : ∃ f, fs[j]? = some f := ⟨fs[j], by simp [hj]⟩
          obtain ⟨fb, fo, rfl, hfb, s0, s1, sa, sc, s2, hsl⟩ := (HF.out.below HBW.out).getM hf
          have HTK := hidM (show fs.take (j + 1) = fs.take j ++ [f] by rw [List.take_add_one, hf]; rfl)
          have SL := hidM hsl
          have pr0 := cell_below Dq.out pb0
          have pr1 := cell_below Dq.out pb1
          have pr2 := cell_below Dq.out pb2
          have u0 : (0 : Int) ≤ (j : Int) := by omega
          have u1 : (j : Int) < (fs.length : Int) := by omega
          have hlq : w.heap.size < wq.heap.size := by omega
          have hlp : pb < wq.heap.size := by omega
          clear hf hsl
          go_upto_region 9 with fail
          refine lift_alloc ?_
          intro w4 hW4 hq4
          obtain ⟨f0, f1, f2⟩ := cells3M hq4
          have R4 := hidM (Rq.out.bel hW4)
          have BX4 := hidM ((hW4.block _ hlp).trans BXq.out)
          have D4 := hidM (Dq.out.trans (hW4.mono Dq.out.size))
          have W4 := hidM (H0.out.trans (D4.out.mono H0.out.size))
          have pw0 := cell_below hW4 pr0
          have pw1 := cell_below hW4 pr1
          have pw2 := cell_below hW4 pr2
          have g0 := cell_below hW4 v0
          have g1 := cell_below hW4 v1
          have SL4 := hidM (SL.out.below hW4)
          have hs4 := hW4.size
          have hl4 : wq.heap.size < w4.heap.size := lt_of_block' hq4
          clear hW4 hq4 pr0 pr1 pr2 v0 v1 s0 s1 s2 SL Rq BXq Dq HBW
          have HA := hidM (l4Agree_any p f bd a_t c_t sa sc ba bc w4 (HT.out.below W4.out) SL4.out (BdsAt.owns (own_bel OB.out W4.out)) ht6 (by omega))
          go_wp2_with fail
          refine HA.out.mono ?_
          intro e w5 hP
          clear HA
          cases hag : agree p f bd with
          | none =>
            obtain ⟨rfl, hb5⟩ := hP.elimNo hag
            have HSO := hidM (show soFar p ⟨tg, bd⟩ (fs.take (j + 1)) = soFar p ⟨tg, bd⟩ (fs.take j) by rw [HTK.out]; exact soFar_no hag)
            have HAN := hidM (show anyH p ⟨tg, bd⟩ (fs.take (j + 1)) = anyH p ⟨tg, bd⟩ (fs.take j) by rw [HTK.out]; exact anyH_no hag)
            have R5 := hidM (R4.out.bel hb5)
            have BX5 := hidM ((hb5.block _ (by omega)).trans BX4.out)
            have D5 := hidM (D4.out.trans (hb5.mono D4.out.size))
            have W5 := hidM (H0.out.trans (D5.out.mono H0.out.size))
            have hs5 := hb5.size
            have q0 := cell_below hb5 pw0
            have h0 := cell_below hb5 g0
            have h1 := cell_below hb5 g1
            have t0 := cell_below hb5 f0
            clear hP hb5 pw0 pw1 pw2 g0 g1 f0 f1 f2 R4 BX4 D4 W4 SL4
            cases g
            · have GN := hidM (show false = anyH p ⟨tg, bd⟩ (fs.take (j + 1)) by rw [HAN.out]; exact HG.out)
              go_wp2_with fail
              go_roundw
              case rel => exact ⟨j + 1, a, c, M2, _, by go_num, by omega, rfl, rfl, GN.out, by rw [HM2.out, HSO.out], R5.out, Nq.out, BX5.out, D5.out, by omega⟩
              case measure => (simp [intOf]; omega)
            · have GN := hidM (show true = anyH p ⟨tg, bd⟩ (fs.take (j + 1)) by rw [HAN.out]; exact HG.out)
              go_wp2_with fail
              go_roundw
              case rel => exact ⟨j + 1, a, c, M2, _, by go_num, by omega, rfl, rfl, GN.out, by rw [HM2.out, HSO.out], R5.out, Nq.out, BX5.out, D5.out, by omega⟩
              case measure => (simp [intOf]; omega)
          | some o =>
            obtain ⟨oa, oc, rfl, hro, hb5⟩ := hP.elimYes hag
            have HAN := hidM (show anyH p ⟨tg, bd⟩ (fs.take (j + 1)) = true by rw [HTK.out]; exact anyH_yes hag)
            have R5 := hidM (R4.out.bel hb5)
            have BX5 := hidM ((hb5.block _ (by omega)).trans BX4.out)
            have D5 := hidM (D4.out.trans (hb5.mono D4.out.size))
            have W5 := hidM (H0.out.trans (D5.out.mono H0.out.size))
            have hs5 := hb5.size
            have q0 := cell_below hb5 pw0
            have h0 := cell_below hb5 g0
            have h1 := cell_below hb5 g1
            have t0 := cell_below hb5 f0
            clear hP hb5 pw0 pw1 pw2 g0 g1 f0 f1 f2 R4 BX4 D4 W4 SL4
            rcases (show p.neg = false ∨ p.neg = true by cases p.neg <;> simp) with hneg | hneg
            · have HSO := hidM (show soFar p ⟨tg, bd⟩ (fs.take (j + 1)) = soFar p ⟨tg, bd⟩ (fs.take j) ++ [⟨tg ++ [f.tag], o⟩] by rw [HTK.out]; exact soFar_yes hneg hag)
              rw [hneg] at q0
              clear hag hneg
              cases g
              · have GN := hidM (show true = anyH p ⟨tg, bd⟩ (fs.take (j + 1)) by rw [HAN.out])
                have OT5 := hidM (own_bel OT.out W5.out)
                have OO := hidM hro
                have hw5 : w0.heap.size ≤ w5.heap.size := D5.out.size
                go_upto_region 14 with (first | (at_builtin; refine wpList_append_any (by rfl) (.tmp 46) (.tmp 48) 39 (by rfl) w5.heap.size 3 _ 1 8 Tryz.underlying39 infoIM (by rfl) (by omega) _ 0 [] (by rfl) (World.ownsRow_nil _ _ _ _) ta tg.length tc (by rfl) (icells tg) (ic_len _) (ic_nil OT5.out) (fun ad e => ic_at OT5.out ad e) (ic_one _) (by unfold maxLen; omega) (by omega) (Nat.le_refl _) ?_; intro a1 c1 w6 ho1 hg1 hl1) | fail)
                have B6 := hidM (show Below w5.heap.size w5 w6 from ⟨hg1.out.os, hg1.out.tape, hg1.out.output, hg1.out.size, fun k hk => hg1.out.block k hk (fun e => by cases e)⟩)
                have T6 := hidM (show w6.ownsRow w5.heap.size 3 1 (.slice a1 tg.length c1) tg.length (icells tg) by have := ho1.out; simpa using this)
                have r0 := cell_below B6.out t0
                have hs6 := B6.out.size
                have HW6 := hidM (fun o' => (Below.refl _ _).alloc (Nat.le_refl _) o' : ∀ o', Below w6.heap.size w6 (w6.alloc o'))
                clear ho1 hg1 hl1 OT5 hro
                go_wp2_with (first | (at_builtin; refine wpList_append_any (by rfl) (.tmp 51) (.tmp 54) 39 (by rfl) w5.heap.size 3 _ 1 8 Tryz.underlying39 infoIM (by rfl) (by omega) _ tg.length _ (by rfl) (own_bel T6.out (HW6.out _)) (some ⟨_, 0, none⟩) 1 1 (by rfl) [.int .i64 f.tag] (by rfl) (fun e => by cases e) (news_new _ _ _ _ (by simp)) (by intro u hu; simp at hu; subst hu; rfl) (by unfold maxLen; omega) (by omega) (by simp; omega) ?_; intro a2 c2 w7 ho2 hg2 hl2; have T7 := hidM (show w7.ownsRow w5.heap.size 3 1 (.slice a2 (tg.length + 1) c2) (tg.length + 1) (icells (tg ++ [f.tag])) by have := ho2.out; rw [ic_snoc]; simpa using this); have B7 := hidM ((B6.out.trans ((HW6.out _).mono B6.out.size)).grown hg2.out (by simp; omega) (fun g hg => (T6.out.lt g hg).1)); have R7 := hidM (R5.out.bel B7.out); have BX7 := hidM ((B7.out.block _ (by omega)).trans BX5.out); have D7 := hidM (D5.out.trans (B7.out.mono D5.out.size)); have hs7 := B7.out.size; have OO7 := hidM (own_bel OO.out B7.out); have NX := hidM (show PmP w7 base (⟨tg ++ [f.tag], o⟩, .slice a2 (tg.length + 1) c2, .slice oa o.length oc) from ⟨⟨a2, c2, by simp⟩, ⟨oa, oc, rfl⟩, by simpa using owns_base T7.out (by omega), owns_base OO7.out (by omega)⟩); have HW7 := hidM (fun o' => (Below.refl _ _).alloc (Nat.le_refl _) o' : ∀ o', Below w7.heap.size w7 (w7.alloc o')); clear ho2 hg2 hl2 T6 HW6 B6 R5 BX5 D5) | (at_builtin; refine wpList_append_any (by rfl) (.tmp 50) (.tmp 58) 86 (by rfl) w0.heap.size 91 _ 2 48 Tryz.underlying86 infoPmF (by rfl) (by omega) _ M2.length _ (by rfl) (own_bel R7.out.row (HW7.out _)) (some ⟨_, 0, none⟩) 1 1 (by rfl) (pmCells (⟨tg ++ [f.tag], o⟩, .slice a2 (tg.length + 1) c2, .slice oa o.length oc)) (by rfl) (fun e => by cases e) (news_new _ _ _ _ (by simp)) (pmCells_one NX.out) (by unfold maxLen; omega) (by omega) (by simp; omega) ?_; intro a3 c3 w8 ho3 hg3 hl3) | fail)
                have R8 := hidM (MO.snoc (R7.out.bel (HW7.out _)) (NX.out.bel (HW7.out _)) ho3.out hg3.out)
                have D8 := hidM ((D7.out.trans ((HW7.out _).mono D7.out.size)).grown hg3.out (by simp; omega) (fun g hg => (R7.out.row.lt g hg).1))
                have BX8 := hidM ((hg3.out.block pb (by simp; omega) (Ne.symm Nq.out)).trans (((HW7.out _).block pb (by omega)).trans BX7.out))
                have N8 := hidM (show (Value.slice a3 (M2 ++ [((⟨tg ++ [f.tag], o⟩, .slice a2 (tg.length + 1) c2, .slice oa o.length oc) : PmX)]).length c3).ownBlock ≠ some pb by rw [List.length_append]; rcases hl3.out with h | h <;> (rw [show (M2.length + List.length [((⟨tg ++ [f.tag], o⟩, .slice a2 (tg.length + 1) c2, .slice oa o.length oc) : PmX)]) = M2.length + 1 from rfl, h]) ; exact Nq.out; simp; omega)
                have hs8 := hg3.out.size
                simp at hs8
                clear ho3 hg3 hl3
                go_roundw
                case rel => exact ⟨j + 1, a3, c3, _, _, by go_num, by omega, by simp, rfl, GN.out, by rw [List.map_append, HM2.out, HSO.out]; simp, R8.out, N8.out, BX8.out, D8.out, by omega⟩
                case measure => (simp [intOf]; omega)
              · have GN := hidM (show true = anyH p ⟨tg, bd⟩ (fs.take (j + 1)) by rw [HAN.out])
                have OT5 := hidM (own_bel OT.out W5.out)
                have OO := hidM hro
                have hw5 : w0.heap.size ≤ w5.heap.size := D5.out.size
                go_upto_region 14 with (first | (at_builtin; refine wpList_append_any (by rfl) (.tmp 46) (.tmp 48) 39 (by rfl) w5.heap.size 3 _ 1 8 Tryz.underlying39 infoIM (by rfl) (by omega) _ 0 [] (by rfl) (World.ownsRow_nil _ _ _ _) ta tg.length tc (by rfl) (icells tg) (ic_len _) (ic_nil OT5.out) (fun ad e => ic_at OT5.out ad e) (ic_one _) (by unfold maxLen; omega) (by omega) (Nat.le_refl _) ?_; intro a1 c1 w6 ho1 hg1 hl1) | fail)
                have B6 := hidM (show Below w5.heap.size w5 w6 from ⟨hg1.out.os, hg1.out.tape, hg1.out.output, hg1.out.size, fun k hk => hg1.out.block k hk (fun e => by cases e)⟩)
                have T6 := hidM (show w6.ownsRow w5.heap.size 3 1 (.slice a1 tg.length c1) tg.length (icells tg) by have := ho1.out; simpa using this)
                have r0 := cell_below B6.out t0
                have hs6 := B6.out.size
                have HW6 := hidM (fun o' => (Below.refl _ _).alloc (Nat.le_refl _) o' : ∀ o', Below w6.heap.size w6 (w6.alloc o'))
                clear ho1 hg1 hl1 OT5 hro
                go_wp2_with (first | (at_builtin; refine wpList_append_any (by rfl) (.tmp 51) (.tmp 54) 39 (by rfl) w5.heap.size 3 _ 1 8 Tryz.underlying39 infoIM (by rfl) (by omega) _ tg.length _ (by rfl) (own_bel T6.out (HW6.out _)) (some ⟨_, 0, none⟩) 1 1 (by rfl) [.int .i64 f.tag] (by rfl) (fun e => by cases e) (news_new _ _ _ _ (by simp)) (by intro u hu; simp at hu; subst hu; rfl) (by unfold maxLen; omega) (by omega) (by simp; omega) ?_; intro a2 c2 w7 ho2 hg2 hl2; have T7 := hidM (show w7.ownsRow w5.heap.size 3 1 (.slice a2 (tg.length + 1) c2) (tg.length + 1) (icells (tg ++ [f.tag])) by have := ho2.out; rw [ic_snoc]; simpa using this); have B7 := hidM ((B6.out.trans ((HW6.out _).mono B6.out.size)).grown hg2.out (by simp; omega) (fun g hg => (T6.out.lt g hg).1)); have R7 := hidM (R5.out.bel B7.out); have BX7 := hidM ((B7.out.block _ (by omega)).trans BX5.out); have D7 := hidM (D5.out.trans (B7.out.mono D5.out.size)); have hs7 := B7.out.size; have OO7 := hidM (own_bel OO.out B7.out); have NX := hidM (show PmP w7 base (⟨tg ++ [f.tag], o⟩, .slice a2 (tg.length + 1) c2, .slice oa o.length oc) from ⟨⟨a2, c2, by simp⟩, ⟨oa, oc, rfl⟩, by simpa using owns_base T7.out (by omega), owns_base OO7.out (by omega)⟩); have HW7 := hidM (fun o' => (Below.refl _ _).alloc (Nat.le_refl _) o' : ∀ o', Below w7.heap.size w7 (w7.alloc o')); clear ho2 hg2 hl2 T6 HW6 B6 R5 BX5 D5) | (at_builtin; refine wpList_append_any (by rfl) (.tmp 50) (.tmp 58) 86 (by rfl) w0.heap.size 91 _ 2 48 Tryz.underlying86 infoPmF (by rfl) (by omega) _ M2.length _ (by rfl) (own_bel R7.out.row (HW7.out _)) (some ⟨_, 0, none⟩) 1 1 (by rfl) (pmCells (⟨tg ++ [f.tag], o⟩, .slice a2 (tg.length + 1) c2, .slice oa o.length oc)) (by rfl) (fun e => by cases e) (news_new _ _ _ _ (by simp)) (pmCells_one NX.out) (by unfold maxLen; omega) (by omega) (by simp; omega) ?_; intro a3 c3 w8 ho3 hg3 hl3) | fail)
                have R8 := hidM (MO.snoc (R7.out.bel (HW7.out _)) (NX.out.bel (HW7.out _)) ho3.out hg3.out)
                have D8 := hidM ((D7.out.trans ((HW7.out _).mono D7.out.size)).grown hg3.out (by simp; omega) (fun g hg => (R7.out.row.lt g hg).1))
                have BX8 := hidM ((hg3.out.block pb (by simp; omega) (Ne.symm Nq.out)).trans (((HW7.out _).block pb (by omega)).trans BX7.out))
                have N8 := hidM (show (Value.slice a3 (M2 ++ [((⟨tg ++ [f.tag], o⟩, .slice a2 (tg.length + 1) c2, .slice oa o.length oc) : PmX)]).length c3).ownBlock ≠ some pb by rw [List.length_append]; rcases hl3.out with h | h <;> (rw [show (M2.length + List.length [((⟨tg ++ [f.tag], o⟩, .slice a2 (tg.length + 1) c2, .slice oa o.length oc) : PmX)]) = M2.length + 1 from rfl, h]) ; exact Nq.out; simp; omega)
                have hs8 := hg3.out.size
                simp at hs8
                clear ho3 hg3 hl3
                go_roundw
                case rel => exact ⟨j + 1, a3, c3, _, _, by go_num, by omega, by simp, rfl, GN.out, by rw [List.map_append, HM2.out, HSO.out]; simp, R8.out, N8.out, BX8.out, D8.out, by omega⟩
                case measure => (simp [intOf]; omega)
            · have HSO := hidM (show soFar p ⟨tg, bd⟩ (fs.take (j + 1)) = soFar p ⟨tg, bd⟩ (fs.take j) by rw [soFar_neg hneg, soFar_neg hneg])
              rw [hneg] at q0
              clear hag hneg
              cases g
              · have GN := hidM (show true = anyH p ⟨tg, bd⟩ (fs.take (j + 1)) by rw [HAN.out])
                go_wp2_with fail
                go_roundw
                case rel => exact ⟨j + 1, a, c, M2, _, by go_num, by omega, rfl, rfl, GN.out, by rw [HM2.out, HSO.out], R5.out, Nq.out, BX5.out, D5.out, by omega⟩
                case measure => (simp [intOf]; omega)
              · have GN := hidM (show true = anyH p ⟨tg, bd⟩ (fs.take (j + 1)) by rw [HAN.out])
                go_wp2_with fail
                go_roundw
                case rel => exact ⟨j + 1, a, c, M2, _, by go_num, by omega, rfl, rfl, GN.out, by rw [HM2.out, HSO.out], R5.out, Nq.out, BX5.out, D5.out, by omega⟩
                case measure => (simp [intOf]; omega)
        · have hje : j = fs.length := by omega
          subst hje
          have hy : ¬ (fs.length : Int) < (fs.length : Int) := by omega
          have HG' := hidM (show g = anyH p ⟨tg, bd⟩ fs by rw [HG.out, List.take_length])
          have HM3 := hidM (show M2.map Prod.fst = nextM p fs ((L.map Prod.fst).take k) ++ soFar p ⟨tg, bd⟩ fs by rw [HM2.out, List.take_length])
          have pr0 := cell_below Dq.out pb0
          have hlq : w.heap.size < wq.heap.size := by omega
          clear HG HM2
          rcases (show p.neg = false ∨ p.neg = true by cases p.neg <;> simp) with hneg | hneg
          · have HNX := hidM (show M2.map Prod.fst = nextM p fs ((L.map Prod.fst).take (k + 1)) by rw [HM3.out, HNS.out, nextOf_pos hneg])
            rw [hneg] at pr0
            clear hneg
            go_wp2_with fail
            go_roundw
            case rel => exact ⟨k + 1, a, c, M2, by go_num, by omega, rfl, HNX.out, Rq.out, Dq.out⟩
            case measure => (simp [intOf]; omega)
          · cases g
            · have HNX := hidM (show M2.map Prod.fst ++ [⟨tg, bd⟩] = nextM p fs ((L.map Prod.fst).take (k + 1)) by rw [HM3.out, HNS.out, nextOf_neg hneg _ HG'.out, soFar_neg hneg]; simp)
              rw [hneg] at pr0
              clear hneg
              have HWq := hidM (fun o' => (Below.refl _ _).alloc (Nat.le_refl _) o' : ∀ o', Below wq.heap.size wq (wq.alloc o'))
              have hwq0 : w0.heap.size ≤ wq.heap.size := Dq.out.size
              have PXq := hidM (PX.out.bel HBW.out)
              go_wp2_with (first | (at_builtin; refine wpList_append_any (by rfl) (.tmp 67) (.tmp 69) 86 (by rfl) w0.heap.size 91 _ 2 48 Tryz.underlying86 infoPmF (by rfl) (by omega) _ M2.length _ (by rfl) (own_bel Rq.out.row (HWq.out _)) (some ⟨_, 0, none⟩) 1 1 (by rfl) (pmCells (⟨tg, bd⟩, .slice ta tg.length tc, .slice ba bd.length bc)) (by rfl) (fun e => by cases e) (news_new _ _ _ _ (by simp)) (pmCells_one PX.out) (by unfold maxLen; omega) (by omega) (by simp; omega) ?_; intro a3 c3 w8 ho3 hg3 hl3) | fail)
              have R8 := hidM (MO.snoc (Rq.out.bel (HWq.out _)) (PXq.out.bel (HWq.out _)) ho3.out hg3.out)
              have D8 := hidM ((Dq.out.trans ((HWq.out _).mono Dq.out.size)).grown hg3.out (by simp; omega) (fun g hg => (Rq.out.row.lt g hg).1))
              clear ho3 hg3 hl3
              go_roundw
              case rel => exact ⟨k + 1, a3, c3, _, by go_num, by omega, by simp, by rw [List.map_append]; exact HNX.out, R8.out, D8.out⟩
              case measure => (simp [intOf]; omega)
            · have HNX := hidM (show M2.map Prod.fst = nextM p fs ((L.map Prod.fst).take (k + 1)) by rw [HM3.out, HNS.out, nextOf_neg hneg _ HG'.out, soFar_neg hneg]; simp)
              rw [hneg] at pr0
              clear hneg
              go_wp2_with fail
              go_roundw
              case rel => exact ⟨k + 1, a, c, M2, by go_num, by omega, rfl, HNX.out, Rq.out, Dq.out⟩
              case measure => (simp [intOf]; omega)
    · have hke : k = L.length := by omega
      subst hke
      have hy : ¬ (L.length : Int) < (L.length : Int) := by omega
      have HR := hidM (show M.map Prod.fst = nextM p fs (L.map Prod.fst) by rw [HM.out, List.take_of_length_le (by simp)])
      go_wp2_with fail
      go_ret
      exact ⟨⟨a, c, M, rfl, ⟨owns_base ROW.out.row (by omega), ROW.out.all⟩, HR.out⟩, HBW.out⟩
end Go.Proofs.YtmmdlgjmplddiaaGreat

namespace Go.Proofs.YtmmdlgjmplddiaaGreat
open Go.RowKit
attribute [local go_sem ↓] Go.wp_at_zero Go.wp_at_succ

theorem agGo_len : ∀ (ts : List Tm) (vs : List V) (out o : List Bd), agGo out ts vs = some o → o.length ≤ out.length + ts.length
  | [], _, out, o, h => by
    simp only [agGo] at h
    injection h with h
    subst h
    simp
  | _ :: _, [], out, o, h => by
    simp only [agGo] at h
    injection h with h
    subst h
    omega
  | t :: ts, v :: vs, out, o, h => by
    rw [agGo_cons] at h
    cases ha : agT out t v with
    | none => rw [ha] at h; cases h
    | some o1 =>
      rw [ha] at h
      have h1 := agT_len ha
      have h2 := agGo_len ts vs o1 o h
      rw [List.length_cons]
      omega
theorem agree_len {p : Pt} {f : F} {bs o : List Bd} (h : agree p f bs = some o) : o.length ≤ bs.length + p.terms.length := by
  unfold agree at h
  split at h
  · exact agGo_len _ _ _ _ h
  · cases h
theorem hits_mem (p : Pt) (x : Pm) : ∀ (l : List F) (y : Pm), y ∈ hits p x l → ∃ f ∈ l, ∃ o, agree p f x.binds = some o ∧ y = ⟨x.tags ++ [f.tag], o⟩
  | [], y, h => by simp [hits] at h
  | f :: r, y, h => by
    simp only [hits, List.mem_append] at h
    rcases h with h | h
    · cases ha : agree p f x.binds with
      | none => rw [ha] at h; simp at h
      | some o =>
        rw [ha] at h
        simp at h
        exact ⟨f, List.mem_cons_self, o, ha, h⟩
    · obtain ⟨g, hg, o, h1, h2⟩ := hits_mem p x r y h
      exact ⟨g, List.mem_cons_of_mem _ hg, o, h1, h2⟩
theorem nextM_small {p : Pt} {fs : List F} {X : List Pm} {t b : Nat} (h : ∀ x ∈ X, x.tags.length ≤ t ∧ x.binds.length ≤ b) : ∀ y ∈ nextM p fs X, y.tags.length ≤ t + 1 ∧ y.binds.length ≤ b + p.terms.length := by
  intro y hy
  unfold nextM at hy
  obtain ⟨x, hx, hy⟩ := List.mem_flatMap.1 hy
  have := h x hx
  unfold nextOf at hy
  split at hy
  · split at hy
    · simp at hy
      subst hy
      omega
    · simp at hy
  · obtain ⟨f, _, o, ha, rfl⟩ := hits_mem p x fs y hy
    have := agree_len ha
    simp
    omega
theorem allM_snoc (fs : List F) (p : Pt) : ∀ (ps : List Pt) (xs : List Pm) (n : Nat), allM (ps ++ [p]) fs xs n = (nextM p fs (allM ps fs xs n).1, (allM ps fs xs n).2 + (nextM p fs (allM ps fs xs n).1).length)
  | [], xs, n => rfl
  | r :: ps, xs, n => by
    simp only [List.cons_append, allM]
    exact allM_snoc fs p ps _ _
theorem allM_len (fs : List F) (hf : fs.length ≤ 40) : ∀ (ps : List Pt) (xs : List Pm) (n : Nat), (allM ps fs xs n).1.length ≤ xs.length * 41 ^ ps.length
  | [], xs, n => by simp [allM]
  | r :: ps, xs, n => by
    have h1 := allM_len fs hf ps (nextM r fs xs) (n + (nextM r fs xs).length)
    have h2 := nextM_len r fs xs
    simp only [allM, List.length_cons, Nat.pow_succ]
    have h3 : xs.length * (fs.length + 1) ≤ xs.length * 41 := Nat.mul_le_mul (Nat.le_refl _) (by omega)
    have h4 : (nextM r fs xs).length * 41 ^ ps.length ≤ xs.length * 41 * 41 ^ ps.length := Nat.mul_le_mul (by omega) (Nat.le_refl _)
    have h5 : xs.length * (41 ^ ps.length * 41) = xs.length * 41 * 41 ^ ps.length := by rw [Nat.mul_comm (41 ^ ps.length), Nat.mul_assoc]
    omega
theorem pow41 {k : Nat} (h : k ≤ 5) : 41 ^ k ≤ 115856201 := by
  have : 41 ^ k ≤ 41 ^ 5 := Nat.pow_le_pow_right (by omega) h
  simpa using this
/-- What the model's l4All leaves. -/
def AlPost (ps : List Pt) (fs : List F) (w : World) (e : Ending) (w' : World) : Prop :=
  (∃ a c M, e = .returned (.tuple #[.slice a M.length c, .int .i64 ((allM ps fs [⟨[], []⟩] 0).2 : Nat)]) ∧ MO w' w.heap.size w.heap.size a c M ∧ M.map Prod.fst = (allM ps fs [⟨[], []⟩] 0).1) ∧ Below w.heap.size w w'
theorem AlPost.mk {ps : List Pt} {fs : List F} {w w' : World} {a : Option Addr} {c n : Nat} {M : List PmX} (h1 : n = (allM ps fs [⟨[], []⟩] 0).2) (h2 : MO w' w.heap.size w.heap.size a c M) (h3 : M.map Prod.fst = (allM ps fs [⟨[], []⟩] 0).1) (h4 : Below w.heap.size w w') : AlPost ps fs w (.returned (.tuple #[.slice a M.length c, .int .i64 (n : Int)])) w' := by
  subst h1
  exact ⟨⟨a, c, M, rfl, h2, h3⟩, h4⟩
theorem MO.first (w : World) {b1 base k : Nat} (h1 : b1 ≤ k) (h : w.heap[k]? = some (.cells #[.slice none 0 0, .slice none 0 0] 91 (0, 0))) : MO w b1 base (some ⟨k, 0, none⟩) 1 [((⟨[], []⟩, .slice none 0 0, .slice none 0 0) : PmX)] :=
  ⟨⟨rfl, .inr ⟨k, 1, _, rfl, h1, h, Nat.le_refl _, by unfold maxLen; omega, rfl, rfl⟩⟩, fun x hx => by
    simp at hx
    subst hx
    exact ⟨⟨none, 0, rfl⟩, ⟨none, 0, rfl⟩, World.ownsRow_nil _ _ _ _, World.ownsRow_nil _ _ _ _⟩⟩
set_option maxRecDepth 100000 in
set_option maxHeartbeats 12800000 in
theorem l4All_any (r : Ru) (fs : List F) (a_p : Option Addr) (c_p : Nat) (a_e : Option Addr) (c_e : Nat) (a_a : Option Addr) (c_a : Nat) (fa : Option Addr) (fc : Nat) {q : Option Nat} (w : World) (h_p : PtsAt q w a_p r.pats) (h_f : FactsAt w fa fs) (hp6 : r.pats.length ≤ 6) (ht6 : ∀ p ∈ r.pats, p.terms.length ≤ 6) (hf40 : fs.length ≤ 40) :
    Calls Tryz.prog 28 #[.agg #[.string r.name, .int .i64 r.sal, .slice a_p r.pats.length c_p, .slice a_e r.exprs.length c_e, .slice a_a r.acts.length c_a], .slice fa fs.length fc] w (AlPost r.pats fs w) := by
  have HP := hidM h_p
  have HF := hidM h_f
  have HT6 := hidM ht6
  clear h_p h_f ht6
  go_enter Tryz.func28, Tryz.ntmps28
  go_upto_region 2 with fail
  refine lift2aN ?_
  intro w0 hW0 hq1 hq2
  have hr2 : w0.cell? ⟨w.heap.size, 2, none⟩ = some (.slice a_p r.pats.length c_p) := by simp [World.cell?, hq1]
  have H0 := hidM hW0
  have M0 := hidM (MO.first (base := w.heap.size) w0 (Nat.le_succ w.heap.size) hq2)
  have hs0 := hW0.size
  have hl0 : w.heap.size + 1 < w0.heap.size := lt_of_block' hq2
  clear hW0 hq1 hq2
  go_wp2_with fail
  clear hr2
  go_loopw [15, 6, 7] (fun iv pv nv wr => ∃ (k : Nat) (a : Option Addr) (c : Nat) (M : List PmX) (n : Nat), iv = .int .i64 (k : Int) ∧ k ≤ r.pats.length ∧ pv = .slice a M.length c ∧ nv = .int .i64 (n : Int) ∧ n ≤ k * 4750104241 ∧ allM (r.pats.take k) fs [⟨[], []⟩] 0 = (M.map Prod.fst, n) ∧ (∀ x ∈ M, x.1.tags.length ≤ k ∧ x.1.binds.length ≤ 6 * k) ∧ MO wr w.heap.size w.heap.size a c M ∧ Below w.heap.size w wr ∧ w0.heap.size ≤ wr.heap.size) (fun iv _ _ _ => r.pats.length - (intOf iv).toNat)
  case atStart => exact ⟨0, _, 1, [((⟨[], []⟩, .slice none 0 0, .slice none 0 0) : PmX)], 0, rfl, Nat.zero_le _, rfl, rfl, Nat.zero_le _, rfl, by intro x hx; simp at hx; subst hx; simp, M0.out, H0.out, Nat.le_refl _⟩
  case round =>
    obtain ⟨k, a, c, M, n, rfl, hkl, rfl, rfl, hn, hG, hsm, hMO, hb, hwr⟩ := hrel
    have HG := hidM hG
    have HSM := hidM hsm
    have ROW := hidM hMO
    have HBB := hidM hb
    have hsr := hb.size
    have hMl : M.length ≤ 41 ^ k := by
      have h1 := allM_len fs hf40 (r.pats.take k) [⟨[], []⟩] 0
      rw [hG] at h1
      simp [Nat.min_eq_left hkl] at h1
      exact h1
    clear hG hsm hMO hb M0
    by_cases hk : k < r.pats.length
    · obtain ⟨p, hp⟩ : ∃ p, r.pats[k]? = some p := ⟨r.pats[k], by simp [hk]⟩
      obtain ⟨pb, po, a_t, c_t, rfl, _, d0, d1, d2, h_t, _⟩ := HP.out.getC hp
      have e0 := cell_below HBB.out d0
      have e1 := cell_below HBB.out d1
      have e2 := cell_below HBB.out d2
      have HTM := hidM h_t
      have hp5 := HT6.out p (List.mem_of_getElem? hp)
      have h41 := pow41 (show k ≤ 5 by omega)
      have HGS := hidM (show allM (r.pats.take (k + 1)) fs [⟨[], []⟩] 0 = (nextM p fs (M.map Prod.fst), n + (nextM p fs (M.map Prod.fst)).length) by rw [List.take_add_one, hp]; show allM (r.pats.take k ++ [p]) fs _ 0 = _; rw [allM_snoc, HG.out])
      have z0 : (0 : Int) ≤ (k : Int) := by omega
      have z1 : (k : Int) < (r.pats.length : Int) := by omega
      clear d0 d1 d2 h_t hp HG
      go_upto_region 6 with fail
      refine lift_alloc ?_
      intro w2 hW2 hq2
      obtain ⟨b0, b1, b2⟩ := cells3M hq2
      have R2 := hidM (ROW.out.bel hW2)
      have D2 := hidM (HBB.out.trans (hW2.mono HBB.out.size))
      have hs2 := hW2.size
      clear hW2 hq2 e0 e1 e2 ROW HBB
      have HN := hidM (l4Next_any p fs M a_t c_t fa fc a c w2 (HTM.out.below D2.out) (HF.out.below D2.out) R2.out (by omega) hp5 hf40 (by omega) (fun x hx => by have := HSM.out x hx; omega))
      go_wp2_with fail
      refine HN.out.mono ?_
      rintro e w3 ⟨⟨a3, c3, M3, rfl, hM3, hm3⟩, hb3⟩
      have R3 := hidM (show MO w3 w.heap.size w.heap.size a3 c3 M3 from ⟨owns_base hM3.row (by omega), hM3.all⟩)
      have D3 := hidM (D2.out.trans (hb3.mono D2.out.size))
      have HM3 := hidM hm3
      have hlen := congrArg List.length hm3
      rw [List.length_map] at hlen
      have hnl := nextM_len p fs (M.map Prod.fst)
      rw [List.length_map] at hnl
      have hnl2 : M.length * (fs.length + 1) ≤ 115856201 * 41 := Nat.mul_le_mul (by omega) (by omega)
      have hM3l : M3.length ≤ 4750104241 := by omega
      have hs3 := hb3.size
      have HS3 := hidM (show ∀ x ∈ M3, x.1.tags.length ≤ k + 1 ∧ x.1.binds.length ≤ 6 * (k + 1) by
        intro x hx
        have h1 := nextM_small (p := p) (fs := fs) (X := M.map Prod.fst) (t := k) (b := 6 * k) (fun y hy => by obtain ⟨z, hz, rfl⟩ := List.mem_map.1 hy; exact HSM.out z hz) x.1 (by rw [← hm3]; exact List.mem_map_of_mem hx)
        omega)
      have w1 : (-9223372036854775808 : Int) ≤ (n : Int) + (M3.length : Int) := by omega
      have w2' : (n : Int) + (M3.length : Int) ≤ 9223372036854775807 := by omega
      have HLN := hidM hlen
      clear hM3 hm3 hb3 HN hnl hnl2 hlen
      go_wp2_with fail
      go_roundw
      case rel => exact ⟨k + 1, a3, c3, M3, n + M3.length, by go_num, by omega, rfl, by go_num, by omega, by rw [HGS.out, HM3.out, HLN.out], HS3.out, R3.out, D3.out, by omega⟩
      case measure => (simp [intOf]; omega)
    · have hke : k = r.pats.length := by omega
      subst hke
      have hy : ¬ (r.pats.length : Int) < (r.pats.length : Int) := by omega
      have HR := hidM (show allM r.pats fs [⟨[], []⟩] 0 = (M.map Prod.fst, n) by rw [← HG.out, List.take_length])
      go_wp2_with fail
      refine bodyPost_ret (v := .tuple #[.slice a M.length c, .int .i64 (n : Int)]) (by simp [results, Tryz.results28, go_sem]) rfl ?_
      exact AlPost.mk (by rw [HR.out]) ROW.out (by rw [HR.out]) HBB.out
end Go.Proofs.YtmmdlgjmplddiaaGreat

namespace Go.Proofs.YtmmdlgjmplddiaaGreat
open Go.RowKit
attribute [local go_sem ↓] Go.wp_at_zero Go.wp_at_succ

theorem allM_small (fs : List F) : ∀ (ps : List Pt) (xs : List Pm) (n t b : Nat), (∀ x ∈ xs, x.tags.length ≤ t ∧ x.binds.length ≤ b) → (∀ p ∈ ps, p.terms.length ≤ 6) → ∀ y ∈ (allM ps fs xs n).1, y.tags.length ≤ t + ps.length ∧ y.binds.length ≤ b + 6 * ps.length
  | [], xs, n, t, b, h, _, y, hy => by
    simp only [allM] at hy
    simpa using h y hy
  | p :: ps, xs, n, t, b, h, h6, y, hy => by
    simp only [allM] at hy
    have hp := h6 p List.mem_cons_self
    have := allM_small fs ps (nextM p fs xs) _ (t + 1) (b + 6) (fun x hx => by have := nextM_small h x hx; omega) (fun q hq => h6 q (List.mem_cons_of_mem _ hq)) y hy
    rw [List.length_cons]
    omega
/-- The rules are checked, the facts good. -/
def ready (rs : List Ru) (fs : List F) : Bool := decide ((chk rs).1 = 0) && gFacts fs
theorem ready_small {rs : List Ru} {fs : List F} (h : ready rs fs = true) : (chk rs).1 = 0 ∧ gFacts fs = true ∧ fs.length ≤ 40 := by
  unfold ready at h
  simp at h
  refine ⟨h.1, h.2, ?_⟩
  have h2 := h.2
  unfold gFacts at h2
  simp at h2
  exact h2.1
theorem RusAt.one {w : World} {k : Nat} {x : Ru} {a_p a_e a_a : Option Addr} {c_p c_e c_a : Nat} (h : w.heap[k]? = some (.cells #[.string x.name, .int .i64 x.sal, .slice a_p x.pats.length c_p, .slice a_e x.exprs.length c_e, .slice a_a x.acts.length c_a] 35 (0, 0))) (h_p : PtsAt none w a_p x.pats) (h_e : ExsAt none w a_e x.exprs) (h_a : AcsAt none w a_a x.acts) (hc : x.exprs.length ≤ c_e) : RusAt none w (some ⟨k, 0, none⟩) [x] := by
  intro i y hi
  rcases i with _ | i
  · simp at hi
    subst hi
    refine ⟨k, 0, _, rfl, Qb.bare _ _ _, rfl, ?_, a_p, c_p, a_e, c_e, a_a, c_a, rfl, h_p, h_e, h_a, hc⟩
    intro j v hj
    rcases j with _ | _ | _ | _ | _ | j
    all_goals simp at hj
    all_goals subst hj
    all_goals simp [World.cell?, h]
  · simp at hi
set_option maxHeartbeats 1600000 in
theorem l4Ready_any (rs : List Ru) (fs : List F) (a : Option Addr) (c : Nat) (fa : Option Addr) (fc : Nat) {q : Option Nat} (w : World) (hv : RusAt q w a rs) (hc : rs.length ≤ c) (hle : ListLe Ru.le 1048576 rs) (ho : ∀ x ∈ rs, OpsOk x.exprs) (hf : FactsAt w fa fs) (hl : fs.length ≤ 1048576) (hs : ∀ f ∈ fs, Sized f) :
    Calls Tryz.prog 27 #[.slice a rs.length c, .slice fa fs.length fc] w fun e w' => e = .returned (.bool (ready rs fs)) ∧ Below w.heap.size w w' := by
  have HC := hidM (l2Checked_anyN rs a c w hv hc hle ho)
  have HF := hidM hf
  have HS := hidM hs
  clear hf hs hle ho hv
  by_cases hck : (chk rs).1 = 0
  · have HR := hidM (show ready rs fs = gFacts fs by unfold ready; rw [decide_eq_true hck]; simp)
    rw [decide_eq_true hck] at HC
    clear hck
    go_enter Tryz.func27, Tryz.ntmps27
    go_wp2_with fail
    refine HC.out.mono ?_
    rintro e w1 ⟨rfl, hb1⟩
    have HG := hidM (l1GoodFacts_any fa fc fs w1 (HF.out.below hb1) hl HS.out)
    have B1 := hidM hb1
    clear HC hb1
    go_wp2_with fail
    refine HG.out.mono ?_
    rintro e w2 ⟨rfl, hb2⟩
    have B2 := hidM (B1.out.trans (hb2.mono B1.out.size))
    clear HG hb2
    go_wp2_with fail
    go_ret
    exact ⟨ret_bool HR.out.symm, B2.out⟩
  · have HR := hidM (show ready rs fs = false by unfold ready; rw [decide_eq_false hck]; simp)
    rw [decide_eq_false hck] at HC
    clear hck
    go_enter Tryz.func27, Tryz.ntmps27
    go_wp2_with fail
    refine HC.out.mono ?_
    rintro e w1 ⟨rfl, hb1⟩
    have B1 := hidM hb1
    clear HC hb1
    go_wp2_with fail
    go_ret
    exact ⟨ret_bool HR.out.symm, B1.out⟩
end Go.Proofs.YtmmdlgjmplddiaaGreat

namespace Go.Proofs.YtmmdlgjmplddiaaGreat
open Go.RowKit Go.Maps
attribute [local go_sem ↓] Go.wp_at_zero Go.wp_at_succ

/-- What 'of' leaves. -/
def OfPost (kl : Al → Lit) (base gb mb : Nat) (la : Option Addr) (lc : Nat) (L : List AlX) (bs : List Nat) (p : Pt) (w : World) (e : Ending) (w' : World) : Prop :=
  ∃ la' lc' L' bs' D' b, e = .returned (.pointer (some ⟨b, 0, none⟩)) ∧ NS kl w' base gb mb la' lc' L' bs' D' ∧ L'.map Prod.fst = addA (L.map Prod.fst) (alphaOf p) ∧ bs'[seekA (alphaOf p) (L.map Prod.fst)]? = some b ∧ Fr3 gb mb (Value.slice la L.length lc).ownBlock w w' ∧ (∀ (i n : Nat), bs[i]? = some n → bs'[i]? = some n) ∧ (∀ g, (Value.slice la' L'.length lc').ownBlock = some g → (Value.slice la L.length lc).ownBlock = some g ∨ w.heap.size ≤ g)
theorem Fr3.trans_below {gb mb : Nat} {row : Option Nat} {u v w : World} (h : Below u.heap.size u v) (k : Fr3 gb mb row v w) : Fr3 gb mb row u w := ⟨(h.mono (Nat.zero_le _)).trans k.rest, fun j hj h1 h2 h3 => (k.block j (Nat.lt_of_lt_of_le hj h.size) h1 h2 h3).trans (h.block j hj)⟩
theorem lift_any {P : World → Prop} {w0 u : World} {o : Obj} (hu : Below w0.heap.size w0 u) (hq : u.heap[w0.heap.size]? = some o) (h : ∀ wt, Below w0.heap.size w0 wt → wt.heap[w0.heap.size]? = some o → P wt) : P u := h u hu hq
set_option maxRecDepth 100000 in
set_option maxHeartbeats 6400000 in
theorem of_any (kl : Al → Lit) (K : KLA kl) (p : Pt) (a_t : Option Addr) (c_t : Nat) {q : Option Nat} (base gb mb : Nat) (la : Option Addr) (lc : Nat) (L : List AlX) (bs : List Nat) (D : DataW Unit) (w : World) (hN : NS kl w base gb mb la lc L bs D) (h_t : TmsAt q w a_t p.terms) (hcl : p.cls.size ≤ maxLen) (hts : ListLe Tm.le maxLen p.terms) (htl : p.terms.length ≤ 1048576) (hcp : p.terms.length ≤ c_t) (hvo : ∀ t ∈ p.terms, VOk t.val) (hL : L.length ≤ 1000) (hbase : base ≤ w.heap.size) :
    Calls Tryz.prog 32 #[.pointer (some ⟨gb, 0, none⟩), .agg #[.bool p.neg, .string p.cls, .slice a_t p.terms.length c_t]] w (OfPost kl base gb mb la lc L bs p w) := by
  have HN := hidN1 hN
  have HT := hidN1 h_t
  have HTS := hidN1 hts
  have HX := hidN1 (alphaOf_ok hcl hvo)
  have HA := hidN1 (fun o => (Below.refl _ _).alloc (Nat.le_refl _) o : ∀ o, Below w.heap.size w (w.alloc o))
  have hu1 := Tryz.underlying153
  clear hN h_t hts hvo
  go_enter Tryz.func32, Tryz.ntmps32
  go_wp2_with fail
  refine (iAlphaOf_any p a_t c_t _ (HT.out.below (HA.out _)) hcl HTS.out htl hcp).mono ?_
  rintro e w1 ⟨⟨a1, c1, rfl, ho1⟩, hb1⟩
  have N1 := hidN1 ((HN.out.bel (HA.out _)).bel hb1)
  have B1 := hidN1 ((HA.out _).trans (hb1.mono (HA.out _).size))
  have hs1 := hb1.size
  simp at hs1
  have XO1 := hidN1 (owns_base ho1 (show w.heap.size ≤ _ by simp))
  obtain ⟨X, hX⟩ : ∃ X, X = alphaOf p := ⟨_, rfl⟩
  have hX6 : X.tests.length ≤ 6 := by rw [hX]; exact alphaOf_len p
  rw [← hX] at XO1 HX ⊢
  have HXE := hidN1 hX
  clear hX ho1 hb1 HA HT HTS
  go_upto_region 2 with fail
  refine lift_alloc ?_
  intro w2 hW2 hq2
  obtain ⟨g0, g1, g2⟩ := cells3N hq2
  have N2 := hidN1 (N1.out.bel hW2)
  have B2 := hidN1 (B1.out.trans (hW2.mono B1.out.size))
  have XO2 := hidN1 (own_bel XO1.out hW2)
  have hs2 := hW2.size
  have hl2 : w1.heap.size < w2.heap.size := lt_of_block' hq2
  clear hW2 hq2 N1 B1 XO1
  go_wp2_with fail
  refine (keyA_any X a1 c1 w2 (TtsAt.owns XO2.out) hX6).mono ?_
  rintro e w3 ⟨rfl, hb3⟩
  have hlk : (keyA X).length = 38 := by unfold keyA; rw [keyOnA_len, padT_len _ hX6]
  have HLK := hidN1 hlk
  have g0' := cell_below hb3 g0
  have g1' := cell_below hb3 g1
  have g2' := cell_below hb3 g2
  have N3 := hidN1 (N2.out.bel hb3)
  have B3 := hidN1 (B2.out.trans (hb3.mono B2.out.size))
  have XO3 := hidN1 (own_bel XO2.out hb3)
  have hs3 := hb3.size
  clear hlk g0 g1 g2 hb3 N2 B2 XO2
  go_upto_region 3 with (refine wpList_store_blk (by rfl) 153 (.tmp 6) (.tmp 12) (by rfl) w3.heap.size (keyA X) (by rfl) (by rfl) _ 153 (new_blkA _ _ _ rfl) (by rw [HLK.out]; rfl) (by rw [HLK.out]; exact infoKA) (keyOnA_one _ _ _) ?_; intro w4 hk4 ht4)
  have hB34 : Below w3.heap.size w3 w4 := ((Below.refl _ _).alloc (Nat.le_refl _) _).trans (ht4.out.below (Nat.le_refl _))
  have G0 := cell_below hB34 g0'
  have G1 := cell_below hB34 g1'
  have G2 := cell_below hB34 g2'
  have N4 := hidN1 (N3.out.bel hB34)
  have B4 := hidN1 (B3.out.trans (hB34.mono B3.out.size))
  have XO4 := hidN1 (own_bel XO3.out hB34)
  have hs4 := hB34.size
  have RK := hidN1 (range_blk hk4.out)
  have hkb4 : w3.heap.size < w4.heap.size := lt_of_block' hk4.out
  have hinf : (Tryz.prog.info? 153).map (·.size) = some (keyA X).length := by rw [HLK.out]; exact infoKA
  obtain ⟨⟨m0, m1⟩, _, hgl⟩ := N4.out.box.facts
  obtain ⟨v, ps, hrun, hv⟩ := (N4.out.map.drew).look_ok lawKA (t := 102) Tryz.underlying102 (zeroPtr _) (show ptrR (.pointer none) = some (zP, []) from rfl) (K X HX.out)
  have hAL : (L.map Prod.fst).length = L.length := by simp
  clear g0' g1' g2' hB34 N3 B3 XO3 ht4 hk4
  by_cases hin : seekA X (L.map Prod.fst) < (L.map Prod.fst).length
  · obtain ⟨b, hb⟩ : ∃ b, bs[seekA X (L.map Prod.fst)]? = some b := ⟨bs[seekA X (L.map Prod.fst)]'(by rw [N4.out.inv.len]; exact hin), by simp⟩
    obtain ⟨hy1, hy2⟩ := N4.out.inv.yes X b HX.out hb
    rw [hy1] at hrun
    rw [hy2] at hv
    have hvp := ptrR_inv hv
    subst hvp
    have HB := hidN1 hb
    have HIN := hidN1 hin
    clear hv hy1 hy2 hb hin
    refine wp_region_noPanic ?_
    refine wp_region_held_drew (S := (fun w' => w'.cell? ⟨gb, 0, none⟩ = some (.map (some mb)) ∧ w'.rangeAt w3.heap.size 0 (keyA X))) (by kernel_rfl) ?_ (fun hHeld => ?_)
    · (try dsimp only)
      exact ⟨m0, RK.out⟩
    refine tk 0 hHeld ?_
    (try simp only [Act.put, List.setIfInBounds_toArray, List.set_cons_zero, List.set_cons_succ])
    refine tk 1 hHeld ?_
    (try simp only [Act.put, List.setIfInBounds_toArray, List.set_cons_zero, List.set_cons_succ])
    refine tk 2 hHeld ?_
    (try simp only [Act.put, List.setIfInBounds_toArray, List.set_cons_zero, List.set_cons_succ])
    refine tk 3 hHeld ?_
    (try simp only [Act.put, List.setIfInBounds_toArray, List.set_cons_zero, List.set_cons_succ])
    refine wpAnyH_take (i := 4) (oi := ?oi1) (v := ?v1) ?hi1 (by kernel_rfl) (by kernel_rfl) (by kernel_rfl) (fun _ _ _ h => h) ?yl1 hHeld ?rest1
    case hi1 => (simp only [List.getElem?_toArray, List.getElem?_cons_succ, List.getElem?_cons_zero]; rfl)
    case yl1 =>
      refine' yieldsIf_load_mid (by rfl) _ _ rfl _ _ rfl _ _ ?hS ?hu ?hd ?hj
      case hS => (intro w hSw; exact hSw.2)
      case hu => exact hu1
      case hd => rfl
      case hj => exact hinf
    (try simp only [Act.put, List.setIfInBounds_toArray, List.set_cons_zero, List.set_cons_succ])
    refine wpAnyH_ready (rs := [5]) (by kernel_rfl) (by simp) ?_
    refine AllReadyH.cons (o := ?o2) ?ho2 (fun K hK => ?step2) AllReadyH.nil
    case ho2 => (simp only [List.getElem?_toArray, List.getElem?_cons_succ, List.getElem?_cons_zero]; rfl)
    go_simp
    refine hK.out _ _ ?hS2 (fun hHeld' => ?rest2)
    case hS2 => ((try dsimp only); exact ⟨m0, RK.out⟩)
    clear hK K
    (try simp only [Act.put, List.setIfInBounds_toArray, List.set_cons_zero, List.set_cons_succ])
    clear hHeld
    have hHeld := hHeld'
    clear hHeld'
    refine tk 6 hHeld ?_
    (try simp only [Act.put, List.setIfInBounds_toArray, List.set_cons_zero, List.set_cons_succ])
    refine tk 7 hHeld ?_
    (try simp only [Act.put, List.setIfInBounds_toArray, List.set_cons_zero, List.set_cons_succ])
    refine tk 8 hHeld ?_
    (try simp only [Act.put, List.setIfInBounds_toArray, List.set_cons_zero, List.set_cons_succ])
    refine tk 9 hHeld ?_
    (try simp only [Act.put, List.setIfInBounds_toArray, List.set_cons_zero, List.set_cons_succ])
    refine tk 10 hHeld ?_
    (try simp only [Act.put, List.setIfInBounds_toArray, List.set_cons_zero, List.set_cons_succ])
    refine wpAnyH_done (by kernel_rfl) ?_ _
    refine NoPanic.normal ?_
    go_wp2_with fail
    go_ret
    exact ⟨la, lc, L, bs, D, b, rfl, N4.out.bel (Below.refl _ _).drew, by rw [← HXE.out, addA_has HIN.out], by rw [← HXE.out]; exact HB.out, Fr3.of_below (B4.out.trans (Below.refl _ _).drew), fun _ _ h => h, fun _ h => .inl h⟩
  · have hno := N4.out.inv.no X HX.out hin
    rw [hno] at hrun
    have HIN := hidN1 hin
    clear hv hno hin
    refine wp_region_noPanic ?_
    refine wp_region_held_drew (S := (fun w' => w'.cell? ⟨gb, 0, none⟩ = some (.map (some mb)) ∧ w'.rangeAt w3.heap.size 0 (keyA X))) (by kernel_rfl) ?_ (fun hHeld => ?_)
    · (try dsimp only)
      exact ⟨m0, RK.out⟩
    refine tk 0 hHeld ?_
    (try simp only [Act.put, List.setIfInBounds_toArray, List.set_cons_zero, List.set_cons_succ])
    refine tk 1 hHeld ?_
    (try simp only [Act.put, List.setIfInBounds_toArray, List.set_cons_zero, List.set_cons_succ])
    refine tk 2 hHeld ?_
    (try simp only [Act.put, List.setIfInBounds_toArray, List.set_cons_zero, List.set_cons_succ])
    refine tk 3 hHeld ?_
    (try simp only [Act.put, List.setIfInBounds_toArray, List.set_cons_zero, List.set_cons_succ])
    refine wpAnyH_take (i := 4) (oi := ?oi3) (v := ?v3) ?hi3 (by kernel_rfl) (by kernel_rfl) (by kernel_rfl) (fun _ _ _ h => h) ?yl3 hHeld ?rest3
    case hi3 => (simp only [List.getElem?_toArray, List.getElem?_cons_succ, List.getElem?_cons_zero]; rfl)
    case yl3 =>
      refine' yieldsIf_load_mid (by rfl) _ _ rfl _ _ rfl _ _ ?hS ?hu ?hd ?hj
      case hS => (intro w hSw; exact hSw.2)
      case hu => exact hu1
      case hd => rfl
      case hj => exact hinf
    (try simp only [Act.put, List.setIfInBounds_toArray, List.set_cons_zero, List.set_cons_succ])
    refine wpAnyH_ready (rs := [5]) (by kernel_rfl) (by simp) ?_
    refine AllReadyH.cons (o := ?o4) ?ho4 (fun K hK => ?step4) AllReadyH.nil
    case ho4 => (simp only [List.getElem?_toArray, List.getElem?_cons_succ, List.getElem?_cons_zero]; rfl)
    go_simp
    refine hK.out _ _ ?hS4 (fun hHeld' => ?rest4)
    case hS4 => ((try dsimp only); exact ⟨m0, RK.out⟩)
    clear hK K
    (try simp only [Act.put, List.setIfInBounds_toArray, List.set_cons_zero, List.set_cons_succ])
    clear hHeld
    have hHeld := hHeld'
    clear hHeld'
    refine tk 6 hHeld ?_
    (try simp only [Act.put, List.setIfInBounds_toArray, List.set_cons_zero, List.set_cons_succ])
    refine tk 7 hHeld ?_
    (try simp only [Act.put, List.setIfInBounds_toArray, List.set_cons_zero, List.set_cons_succ])
    refine tk 8 hHeld ?_
    (try simp only [Act.put, List.setIfInBounds_toArray, List.set_cons_zero, List.set_cons_succ])
    refine tk 9 hHeld ?_
    (try simp only [Act.put, List.setIfInBounds_toArray, List.set_cons_zero, List.set_cons_succ])
    refine tk 10 hHeld ?_
    (try simp only [Act.put, List.setIfInBounds_toArray, List.set_cons_zero, List.set_cons_succ])
    refine wpAnyH_done (by kernel_rfl) ?_ _
    refine NoPanic.normal ?_
    go_upto_region 5 with fail
    have HB5 := hidN1 (fun o => (Below.refl _ _).alloc (Nat.le_refl _) o : ∀ o, Below w4.heap.size w4 (w4.alloc o))
    clear hrun
    have D0 : w4.drew.drew.cell? ⟨w1.heap.size, 0, none⟩ = some (.string X.cls) := G0
    have E0 : ∀ o, (w4.alloc o).drew.drew.cell? ⟨w1.heap.size, 0, none⟩ = some (.string X.cls) := fun o => cell_below (HB5.out o).drew.drew G0
    have D1 : w4.drew.drew.cell? ⟨w1.heap.size, 1, none⟩ = some (.int .i64 X.arity) := G1
    have E1 : ∀ o, (w4.alloc o).drew.drew.cell? ⟨w1.heap.size, 1, none⟩ = some (.int .i64 X.arity) := fun o => cell_below (HB5.out o).drew.drew G1
    have D2 : w4.drew.drew.cell? ⟨w1.heap.size, 2, none⟩ = some (.slice a1 X.tests.length c1) := G2
    have E2 : ∀ o, (w4.alloc o).drew.drew.cell? ⟨w1.heap.size, 2, none⟩ = some (.slice a1 X.tests.length c1) := fun o => cell_below (HB5.out o).drew.drew G2
    have D3 : w4.drew.drew.cell? ⟨gb, 1, none⟩ = some (.slice la L.length lc) := m1
    have E3 : ∀ o, (w4.alloc o).drew.drew.cell? ⟨gb, 1, none⟩ = some (.slice la L.length lc) := fun o => cell_below (HB5.out o).drew.drew m1
    go_region_held3 (fun w' => w'.cell? ⟨w1.heap.size, 0, none⟩ = some (.string X.cls) ∧ w'.cell? ⟨w1.heap.size, 1, none⟩ = some (.int .i64 X.arity) ∧ w'.cell? ⟨w1.heap.size, 2, none⟩ = some (.slice a1 X.tests.length c1) ∧ w'.cell? ⟨gb, 1, none⟩ = some (.slice la L.length lc)) (first | with_reducible exact ⟨D0, D1, D2, D3⟩ | with_reducible exact ⟨E0 _, E1 _, E2 _, E3 _⟩) (fail)
    go_upto_region 6 with fail
    refine lift_any (w0 := w4) (o := .cells #[.string X.cls, .int .i64 X.arity, .slice a1 X.tests.length c1, .int .i64 (L.length : Int), .slice none 0 0] 99) ((HB5.out _).drew.drew) (heap_alloc_new _ _) ?_
    intro w5 hW5 hq5
    have N5 := hidN1 (N4.out.bel hW5)
    have ND5 := hidN1 (show NodeAt w5 w4.heap.size (X, .slice a1 X.tests.length c1) L.length from hq5)
    have B5 := hidN1 (B4.out.trans (hW5.mono B4.out.size))
    have XO5 := hidN1 (own_bel XO4.out hW5)
    have RK5 := hidN1 (show w5.rangeAt w3.heap.size 0 (keyA X) from fun j u hu => cell_below hW5 (RK.out j u hu))
    have hs5 := hW5.size
    have hl5 : w4.heap.size < w5.heap.size := lt_of_block' hq5
    clear D0 D1 D2 D3 E0 E1 E2 E3
    clear hW5 hq5 G0 G1 G2 m0 m1 hgl B4 XO4 RK HB5
    obtain ⟨⟨m0, m1⟩, _, hgl⟩ := N5.out.box.facts
    obtain ⟨es0, cl0, hm0⟩ := mapLt N5.out.map
    have hgm : gb ≠ mb := fun e => by have := N5.out.box; unfold GB at this; rw [e, hm0] at this; cases this
    have hkm : w3.heap.size ≠ mb := fun e => by have := N4.out.map.lt; have h2 := HN.out.map.lt; omega
    obtain ⟨w6, hrun6, ho6, hg6⟩ := (N5.out.map.drew).update lawKA (t := 102) Tryz.underlying102 (by unfold maxLen; omega) (K X HX.out) (ptrR_mk w4.heap.size)
    have M6 := hidN1 ho6
    have GR6 := hidN1 (show w5.grownBy w6 (some mb) from ⟨hg6.os, hg6.tape, hg6.output, hg6.size, hg6.block⟩)
    have hs6 : w5.heap.size ≤ w6.heap.size := hg6.size
    have GB6 := hidN1 (show GB w6 gb mb (.slice la L.length lc) from (GR6.out.block gb hgl (fun e => hgm (by injection e))).trans N5.out.box)
    have RK6 := hidN1 (show w6.rangeAt w3.heap.size 0 (keyA X) from fun j u hu => (World.cell?_of_block (w := w5) (GR6.out.block w3.heap.size (by omega) (fun e => hkm (by injection e)))).trans (RK5.out j u hu))
    have R6 := hidN1 (show w6.ownsRow base 100 1 (.slice la L.length lc) L.length (ptrs bs) from owns_of_block N5.out.row fun k hk => GR6.out.block k (N5.out.row.lt k hk).2 (fun e => by injection e with e; obtain ⟨c', hc'⟩ := own_type N5.out.row hk; rw [e, hm0] at hc'; cases hc'))
    obtain ⟨⟨k0, k1⟩, _, hgl6⟩ := GB6.out.facts
    clear ho6 hg6 hm0
    refine wp_region_noPanic ?_
    refine wp_region_held_drew (S := (fun w' => w'.cell? ⟨gb, 0, none⟩ = some (.map (some mb)) ∧ w'.rangeAt w3.heap.size 0 (keyA X))) (by kernel_rfl) ?_ (fun hHeld => ?_)
    · (try dsimp only)
      exact ⟨m0, RK5.out⟩
    refine tk 0 hHeld ?_
    (try simp only [Act.put, List.setIfInBounds_toArray, List.set_cons_zero, List.set_cons_succ])
    refine tk 1 hHeld ?_
    (try simp only [Act.put, List.setIfInBounds_toArray, List.set_cons_zero, List.set_cons_succ])
    refine tk 2 hHeld ?_
    (try simp only [Act.put, List.setIfInBounds_toArray, List.set_cons_zero, List.set_cons_succ])
    refine tk 3 hHeld ?_
    (try simp only [Act.put, List.setIfInBounds_toArray, List.set_cons_zero, List.set_cons_succ])
    refine wpAnyH_take (i := 4) (oi := ?oi5) (v := ?v5) ?hi5 (by kernel_rfl) (by kernel_rfl) (by kernel_rfl) (fun _ _ _ h => h) ?yl5 hHeld ?rest5
    case hi5 => (simp only [List.getElem?_toArray, List.getElem?_cons_succ, List.getElem?_cons_zero]; rfl)
    case yl5 =>
      refine' yieldsIf_load_mid (by rfl) _ _ rfl _ _ rfl _ _ ?hS ?hu ?hd ?hj
      case hS => (intro w hSw; exact hSw.2)
      case hu => exact hu1
      case hd => rfl
      case hj => exact hinf
    (try simp only [Act.put, List.setIfInBounds_toArray, List.set_cons_zero, List.set_cons_succ])
    refine tk 5 hHeld ?_
    (try simp only [Act.put, List.setIfInBounds_toArray, List.set_cons_zero, List.set_cons_succ])
    refine wpAnyH_ready (rs := [6]) (by kernel_rfl) (by simp) ?_
    refine AllReadyH.cons (o := ?o6) ?ho6 (fun K hK => ?step6) AllReadyH.nil
    case ho6 => (simp only [List.getElem?_toArray, List.getElem?_cons_succ, List.getElem?_cons_zero]; rfl)
    go_simp
    refine hK.out _ _ ?hS6 (fun hHeld' => ?rest6)
    case hS6 => ((try dsimp only); exact ⟨k0, RK6.out⟩)
    clear hK K
    (try simp only [Act.put, List.setIfInBounds_toArray, List.set_cons_zero, List.set_cons_succ])
    clear hHeld
    have hHeld := hHeld'
    clear hHeld'
    refine wpAnyH_done (by kernel_rfl) ?_ _
    refine NoPanic.normal ?_
    have HW := hidN1 (fun o => (Below.refl _ _).alloc (Nat.le_refl _) o : ∀ o, Below w6.heap.size w6 (w6.alloc o))
    have GBA := hidN1 (fun o => show GB (w6.alloc o) gb mb (.slice la L.length lc) from ((HW.out o).block gb hgl6).trans GB6.out)
    have TY := hidN1 (fun o k hk => own_type (own_bel R6.out (HW.out o)) (k := k) hk)
    clear m0 m1 hrun6
    go_upto_region 8 with (first | (at_builtin; refine wpList_append_any (by rfl) (.tmp 42) (.tmp 44) 103 (by rfl) base 100 _ 1 8 Tryz.underlying103 infoPtr (by rfl) (by omega) _ L.length _ (by rfl) (own_bel R6.out (HW.out _)) (some ⟨_, 0, none⟩) 1 1 (by rfl) [.pointer (some ⟨w4.heap.size, 0, none⟩)] (by rfl) (fun e => by cases e) (news_new _ _ _ _ (by simp)) (by intro u hu; simp at hu; subst hu; rfl) (by unfold maxLen; omega) (by omega) (by simp; omega) ?_; intro a7 c7 w7 ho7 hg7 hl7; have GB7 := hidN1 (show GB w7 gb mb (.slice la L.length lc) from box_grown (GBA.out _) hg7.out (TY.out _) (by decide)); obtain ⟨⟨l0, l1⟩, z, _⟩ := GB7.out.facts; have z1 := z 1; clear z) | fail)
    refine lift_gb1 GB7.out ?_
    intro w8 hG8 ht8
    have hR := NS.add K (x := (X, .slice a1 X.tests.length c1)) N5.out ⟨⟨a1, c1, rfl⟩, owns_base XO5.out hbase⟩ (fun y hy g hg hgx => by have h1 := ((HN.out.als y hy).2.lt g hg).2; have h2 := (XO5.out.lt g hgx).1; omega) HX.out HIN.out ND5.out (by omega) M6.out GR6.out ho7.out hg7.out hG8 ht8
    have HR := hidN1 hR
    have hbl : bs.length = L.length := by have := N5.out.inv.len; simpa using this
    have HBL := hidN1 hbl
    clear hR hbl hG8 ht8
    go_wp2_with fail
    go_ret
    refine ⟨a7, c7, L ++ [(X, .slice a1 X.tests.length c1)], bs ++ [w4.heap.size], _, w4.heap.size, rfl, HR.out.1, ?_, ?_, Fr3.trans_below B5.out HR.out.2, fun i n h => by rw [List.getElem?_append_left (List.getElem?_eq_some_iff.1 h).1]; exact h, ?_⟩
    · rw [← HXE.out, addA_new HIN.out]
      simp
    · rw [← HXE.out, seekA_new HIN.out, hAL, List.getElem?_append_right (Nat.le_of_eq HBL.out), HBL.out, Nat.sub_self]
      rfl
    · intro g hg
      rw [List.length_append] at hg
      rcases hl7.out with h | h
      · rw [show L.length + [(X, Value.slice a1 X.tests.length c1)].length = L.length + 1 from rfl, h] at hg
        exact .inl hg
      · rw [show L.length + [(X, Value.slice a1 X.tests.length c1)].length = L.length + 1 from rfl, h] at hg
        injection hg with hg
        have h5 := B5.out.size
        simp at hg
        exact .inr (by omega)
end Go.Proofs.YtmmdlgjmplddiaaGreat

namespace Go.Proofs.YtmmdlgjmplddiaaGreat
open Go.RowKit Go.Maps
attribute [local go_sem ↓] Go.wp_at_zero Go.wp_at_succ

/-- A block of the nodes' types. -/
def NTy (t : TypeId) : Prop := t = 105 ∨ t = 100 ∨ t = 99 ∨ t = 111
theorem NS.keptB {kl : Al → Lit} {w w' : World} {base gb mb : Nat} {la : Option Addr} {lc : Nat} {L : List AlX} {bs : List Nat} {D : DataW Unit} (h : NS kl w base gb mb la lc L bs D) (hb : ∀ k, k < w.heap.size → (∀ c t fr, w.heap[k]? = some (Obj.cells c t fr) → NTy t) → w'.heap[k]? = w.heap[k]?) : NS kl w' base gb mb la lc L bs D := by
  have key : ∀ (k : Nat) (c : Array Value) (t : TypeId) (fr : Nat × Nat), w.heap[k]? = some (.cells c t fr) → NTy t → w'.heap[k]? = some (.cells c t fr) := fun k c t fr hk ht => (hb k (lt_of_block' hk) (fun c' t' fr' hk' => by rw [hk] at hk'; injection hk' with hk'; injection hk' with _ h2; rw [← h2]; exact ht)).trans hk
  have keyO : ∀ {e : TypeId} {m : Nat} {v : Value} {n : Nat} {xs : List Value}, w.ownsRow base e m v n xs → NTy e → w'.ownsRow base e m v n xs := fun ho he => owns_of_block ho fun k hk => by
    obtain ⟨c, hc⟩ := own_type ho hk
    rw [key k _ _ _ hc he, hc]
  refine ⟨key _ _ _ _ h.box (.inl rfl), ?_, h.inv, keyO h.row (.inr (.inl rfl)), fun i x b hx hb' => ⟨key _ _ _ _ (h.node i x b hx hb').1 (.inr (.inr (.inl rfl))), (h.node i x b hx hb').2⟩, fun x hx => ⟨(h.als x hx).1, keyO (h.als x hx).2 (.inr (.inr (.inr rfl)))⟩, h.pair, h.gbase⟩
  obtain ⟨es, cl, hm⟩ := mapLt h.map
  exact ownsMap_same h.map (hb mb h.map.lt (fun c t fr hc => by rw [hm] at hc; cases hc))
theorem NS.grown {kl : Al → Lit} {w w' : World} {base gb mb : Nat} {la : Option Addr} {lc : Nat} {L : List AlX} {bs : List Nat} {D : DataW Unit} {t : TypeId} {row : Option Nat} (h : NS kl w base gb mb la lc L bs D) (hg : w.grownBy w' row) (ht : ∀ k, row = some k → ∃ c, w.heap[k]? = some (.cells c t (0, 0))) (hne : ¬ NTy t) : NS kl w' base gb mb la lc L bs D :=
  h.keptB fun k hk hty => hg.block k hk (fun e => by
    obtain ⟨c, hc⟩ := ht k e.symm
    exact hne (hty _ _ _ hc))
theorem Fr3.below {gb mb B : Nat} {row : Option Nat} {w w' : World} (h : Fr3 gb mb row w w') (h0 : B ≤ w.heap.size) (h1 : B ≤ gb) (h2 : B ≤ mb) (h3 : ∀ k, row = some k → B ≤ k) : Below B w w' :=
  ⟨h.rest.os, h.rest.tape, h.rest.output, h.rest.size, fun k hk => h.block k (by omega) (by omega) (by omega) (fun e => by have := h3 k e; omega)⟩
theorem run_makeMapN {P : Program} (t : TypeId) (w : World) : (Instr.makeMap t none).run P w = .ok (.map (some w.heap.size)) (w.alloc (.map #[] 0)) := by
  simp [Instr.makeMap]
set_option maxHeartbeats 400000 in
theorem newNodes_any (kl : Al → Lit) (w : World) : Calls Tryz.prog 31 #[] w fun e w' => e = .returned (.pointer (some ⟨w.heap.size + 1, 0, none⟩)) ∧ NS kl w' w.heap.size (w.heap.size + 1) w.heap.size none 0 [] [] (.map []) ∧ Below w.heap.size w w' := by
  have hmm := run_makeMapN (P := Tryz.prog) 102
  go_enter Tryz.func31, Tryz.ntmps31
  go_wp2_with fail
  go_ret
  refine ⟨rfl, ⟨?_, ?_, MIA.start kl, World.ownsRow_nil _ _ _ _, fun i x b hx => by simp at hx, fun x hx => by simp at hx, List.Pairwise.nil, by omega⟩, ((Below.refl _ _).alloc (Nat.le_refl _) _).alloc (by simp) _⟩
  · exact new_blkA _ _ _ (by simp)
  · exact ownsMap_same (World.ownsMap_made w Tryz.prog 153 ptrR) (Below.heap_alloc _ _ _ (by simp))
theorem cell_far {w : World} {b d j o : Nat} {v x : Value} (h : w.cell? ⟨b, o, none⟩ = some v) (hne : b ≠ d) : (w.setCell ⟨d, j, none⟩ x).cell? ⟨b, o, none⟩ = some v := (World.cell?_of_block (w := w) (Below.heap_setCell w ⟨d, j, none⟩ x b hne)).trans h
end Go.Proofs.YtmmdlgjmplddiaaGreat
