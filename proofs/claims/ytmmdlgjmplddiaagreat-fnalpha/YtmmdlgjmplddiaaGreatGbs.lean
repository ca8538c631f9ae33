/-
  OUR OWN TEXT. Am2, Ap4, one behind the other.
-/
import Derived.Test.YtmmdlgjmplddiaaGreatGbl
import Derived.Test.YtmmdlgjmplddiaaGreatGbk
import Derived.Test.YtmmdlgjmplddiaaGreatGbm
import Derived.Deep.RegionHeld3
import Derived.Deep.DrawnRows
namespace Go.Proofs.YtmmdlgjmplddiaaGreat
open Go.RowKit
attribute [local go_sem ↓] Go.wp_at_zero Go.wp_at_succ

/-- What is asked of the question whether facts are good. -/
def GfC (K : Nat) (a : Option Addr) (c : Nat) (fs : List F) (w : World) : Prop := Calls Tryz.prog K #[.slice a fs.length c] w fun e w' => e = .returned (.bool (gFacts fs)) ∧ Below w.heap.size w w'

/-- One more memory: a list of numbers that was just made. -/
theorem OLL.more {w w2 w3 : World} {base B : Nat} {v v' : Value} {n : Nat} {xss : List (List Int)} {vs : List Value} {xs : List Int} {a2 : Option Addr} {c2 : Nat} (o : Obj) (h : OLL w base v n xss vs) (hb : Below w.heap.size w w2) (hB : w.heap.size ≤ B) (hbase : base ≤ w.heap.size) (hx : w2.ownsRow B 3 1 (.slice a2 xs.length c2) xs.length (icells xs))
    (ho : w3.ownsRow base 39 1 v' (n + 1) (vs ++ [.slice a2 xs.length c2])) (hg : (w2.alloc o).grownBy w3 v.ownBlock) (hl : v'.ownBlock = v.ownBlock ∨ v'.ownBlock = some (w2.alloc o).heap.size) : OLL w3 base v' (n + 1) (xss ++ [xs]) (vs ++ [.slice a2 xs.length c2]) := by
  have A1 : Below w2.heap.size w2 (w2.alloc o) := (Below.refl _ _).alloc (Nat.le_refl _) _
  refine OLL.snoc ((h.below hb).below A1) ⟨⟨a2, c2, rfl⟩, owns_base (ownsB hx A1) (by omega)⟩ ?_ ?_ ho hg hl
  · intro g h1 h2
    have := (h.range (.inl h1)).2
    have := (hx.lt g h2).1
    omega
  · intro y hy g h1 h2
    have := (h.range (.inr ⟨y, hy, h1⟩)).2
    have := (hx.lt g h2).1
    omega

set_option maxHeartbeats 1600000 in
theorem iMems_any (xs : List Al) (a_al : Option Addr) (c_al : Nat) (a_of : Option Addr) (n_of c_of : Nat) (a : Option Addr) (c : Nat) (fs : List F) {q : Option Nat} (w : World) (ha : AlsAt q w a_al xs) (hv : FactsAt w a fs) (hxs : ∀ x ∈ xs, x.tests.length ≤ 1048576) (hl : xs.length ≤ 1048576) (hf : fs.length ≤ 1048576)
    (hG : ∀ w', Below w.heap.size w w' → GfC 33 a c fs w') :
    Calls Tryz.prog 12 #[.agg #[.slice a_al xs.length c_al, .slice a_of n_of c_of], .slice a fs.length c] w fun e w' =>
      (∃ a' c' vs, e = .returned (.slice a' (mems xs fs).length c') ∧ OLL w' w.heap.size (.slice a' (mems xs fs).length c') (mems xs fs).length (mems xs fs) vs) ∧ Below w.heap.size w w' := by
  have B0 : ∀ o, Below w.heap.size w (w.alloc o) := fun o => (Below.refl _ _).alloc (Nat.le_refl _) _
  have HG := hidA hG
  clear hG
  cases hg : gFacts fs
  · have HM : Hid (mems xs fs = []) := show mems xs fs = [] from by simp [mems, hg]
    go_enter Tryz.func12, Tryz.ntmps12
    go_wp2_with (go_at_call 33; refine (HG.out _ (B0 _)).mono ?_; rintro e w1 ⟨rfl, hb1⟩; simp only [hg])
    go_ret
    exact ⟨⟨none, 0, [], by rw [HM.out]; rfl, by rw [HM.out]; exact OLL.nil _ _⟩, (B0 _).trans (hb1.mono (by simp))⟩
  · have HM : Hid (mems xs fs = xs.map (fun x => memOf x fs)) := show mems xs fs = _ from by simp [mems, hg]
    go_enter Tryz.func12, Tryz.ntmps12
    go_wp2_with (go_at_call 33; refine (HG.out _ (B0 _)).mono ?_; rintro e w1 ⟨rfl, hb1⟩; simp only [hg]; have n0 : w1.cell? ⟨w.heap.size, 0, none⟩ = some (.slice a_al xs.length c_al) := cell_below hb1 (by simp [go_sem]))
    have hB1 : Below w.heap.size w w1 := (B0 _).trans (hb1.mono (by simp))
    clear n0 hb1 hg HG
    go_loopw [5, 14] (fun v i wr => ∃ (k : Nat) (a' : Option Addr) (c' : Nat) (vs : List Value), k ≤ xs.length ∧ i = .int .i64 k ∧ v = .slice a' k c' ∧ OLL wr w.heap.size (.slice a' k c') k ((xs.take k).map (fun x => memOf x fs)) vs ∧ Below w.heap.size w wr) (fun _ i _ => xs.length - (intOf i).toNat)
    case atStart => exact ⟨0, none, 0, [], by omega, rfl, rfl, OLL.nil _ _, hB1⟩
    case round =>
      obtain ⟨k, a', c', vs, hk, rfl, rfl, ho, hb⟩ := hrel
      have HO := hidA ho
      clear ho
      by_cases hkl : k < xs.length
      · obtain ⟨x, hxk⟩ : ∃ x, xs[k]? = some x := ⟨xs[k], by simp [hkl]⟩
        obtain ⟨b, o, a_t, c_t, ea, hq, d0, d1, d2, htt⟩ := (ha.below hb).get hxk
        subst ea
        have hxl := hxs x (List.mem_of_getElem? hxk)
        have HT : Hid ((xs.take (k + 1)).map (fun x => memOf x fs) = (xs.take k).map (fun x => memOf x fs) ++ [memOf x fs]) := show _ = _ from by rw [take_succ' xs k x hxk]; simp
        have R1 : ∀ o, Below wr.heap.size wr (wr.alloc o) := fun o => (Below.refl _ _).alloc (Nat.le_refl _) _
        have hTG := hidA (fun w' h1 h2 => tags_any x a_t c_t a c fs (q := q) w' h1 h2 hxl hf)
        have HTA := hidA (fun o => htt.below (R1 o))
        have HFA := hidA (fun o => (hv.below hb).below (R1 o))
        go_wp2_with (first | (go_at_call 34; refine (hTG.out _ (HTA.out _) (HFA.out _)).mono ?_; rintro e w2 ⟨⟨a2, c2, rfl, ow2⟩, hb2⟩; have hW : Below wr.heap.size wr w2 := (R1 _).trans (hb2.mono (by simp)); have OW2 := hidA ow2; clear ow2) | (at_builtin; refine wpList_append_any (by rfl) (.tmp 18) (.tmp 22) 49 (by rfl) w.heap.size 39 _ 1 24 Tryz.underlying49 infoLI (by rfl) (by omega) _ k _ (by rfl) ((HO.out.below hW).own.alloc _) (some ⟨_, 0, none⟩) 1 1 (by rfl) [.slice a2 (memOf x fs).length c2] (by rfl) (fun e => by cases e) (news_allocL _ _ _ _ (by simp)) (by simp [Value.oneCell']) (by unfold maxLen; omega) (by omega) (by have := hW.size; have := hb.size; simp; omega) ?_; intro a3 c3' w3 ho3 hg3 hl3))
        have hOL := OLL.more (.cells #[.slice a2 (memOf x fs).length c2] 39) HO.out hW (by simp) hb.size OW2.out ho3.out hg3.out hl3.out
        have hb3 : Below w.heap.size w w3 := ((hb.trans (hW.mono hb.size)).alloc (by have := hb.size; have := hW.size; omega) _).grown hg3.out (by have := hb.size; have := hW.size; simp; omega) (fun g hg => (HO.out.range (.inl hg)).1)
        have HOL := hidA hOL
        clear hOL
        go_roundw
        case rel => exact ⟨k + 1, a3, c3', vs ++ [.slice a2 (memOf x fs).length c2], by omega, by go_num, rfl, by rw [HT.out]; exact HOL.out, hb3⟩
        case measure => simp [intOf]; omega
      · have hkk : k = xs.length := by omega
        subst hkk
        go_wp2
        go_ret
        have h := HO.out
        rw [List.take_of_length_le (Nat.le_refl _)] at h
        have hml : (mems xs fs).length = xs.length := by rw [HM.out]; simp
        refine ⟨⟨a', c', vs, by rw [hml]; rfl, ?_⟩, hb⟩
        rw [hml, HM.out]
        exact h
end Go.Proofs.YtmmdlgjmplddiaaGreat

namespace Go.Proofs.YtmmdlgjmplddiaaGreat
open Go.RowKit
attribute [local go_sem ↓] Go.wp_at_zero Go.wp_at_succ

set_option maxHeartbeats 3200000 in
theorem sPass_any (x : Al) (a_tests : Option Addr) (c_tests : Nat) (f : F) (a : Option Addr) (c : Nat) {q : Option Nat} (w : World) (ht : TtsAt q w a_tests x.tests) (hv : ValsAt w a f.slots) (hl : x.tests.length ≤ 1048576) :
    Calls Tryz.prog 13 #[.agg #[.string x.cls, .int .i64 x.arity, .slice a_tests x.tests.length c_tests], .agg #[.int .i64 f.tag, .string f.cls, .slice a f.slots.length c]] w fun e w' =>
      e = .returned (.bool (passes x f)) ∧ Below w.heap.size w w' := by
  have B2 : ∀ o o1, Below w.heap.size w ((w.alloc o).alloc o1) := fun o o1 => ((Below.refl _ _).alloc (Nat.le_refl _) _).alloc (by simp) _
  by_cases hc : f.cls.toList = x.cls.toList
  · by_cases hn : (f.slots.length : Int) = x.arity
    · have HG0 : Hid (passes x f = x.tests.all (fun t => tHolds t f.slots)) := passes_all hc hn
      have hn' : ((f.slots.length : Int) != x.arity) = false := by simp [hn]
      go_enter Tryz.func13, Tryz.ntmps13
      go_wp2
      clear hc hn hn'
      go_loopw [24] (fun i wr => ∃ (k : Nat), k ≤ x.tests.length ∧ i = .int .i64 k ∧ passes x f = (x.tests.drop k).all (fun t => tHolds t f.slots) ∧ FcBox wr (w.heap.size + 1) f a c ∧ Below w.heap.size w wr) (fun i _ => x.tests.length - (intOf i).toNat)
      case atStart => exact ⟨0, by omega, rfl, HG0.out, by refine ⟨?_, ?_, ?_⟩ <;> simp [go_sem], B2 _ _⟩
      case round =>
        obtain ⟨k, hk, rfl, hG, hbox, hb⟩ := hrel
        have HG := hidA hG
        have HBX := hidA hbox
        clear hG
        by_cases hkl : k < x.tests.length
        · obtain ⟨t, htk⟩ : ∃ t, x.tests[k]? = some t := ⟨x.tests[k], by simp [hkl]⟩
          obtain ⟨b, o, rfl, hq, c0, c1, c2, c3, c4, c5⟩ := (ht.below hb).get htk
          have HD : Hid (x.tests.drop k = t :: x.tests.drop (k + 1)) := drop_cons htk
          have B1 : ∀ o, Below wr.heap.size wr (wr.alloc o) := fun o => (Below.refl _ _).alloc (Nat.le_refl _) _
          have BB : ∀ o o1, Below wr.heap.size wr ((wr.alloc o).alloc o1) := fun o o1 => (B1 o).alloc (by simp) _
          have q2 : ∀ o, (wr.alloc o).cell? ⟨w.heap.size + 1, 2, none⟩ = _ := fun o => cell_below (B1 o) hbox.2.2
          have q2' : ∀ o o1, ((wr.alloc o).alloc o1).cell? ⟨w.heap.size + 1, 2, none⟩ = _ := fun o o1 => cell_below (BB o o1) hbox.2.2
          clear hbox
          by_cases g1 : t.slot < 0
          · have HT : Hid (tHolds t f.slots = false) := show tHolds t f.slots = false from by simp [tHolds, getI, show ¬ (0 : Int) ≤ t.slot by omega]
            go_wp2
            go_ret
            exact ⟨ret_bool (by rw [HG.out, HD.out, List.all_cons, HT.out]; rfl), hb.trans ((B1 _).mono hb.size)⟩
          by_cases g2 : (f.slots.length : Int) ≤ t.slot
          · have HT : Hid (tHolds t f.slots = false) := show tHolds t f.slots = false from by simp [tHolds, getI_out (vs := f.slots) (i := t.slot) (by simp [inR]; omega)]
            go_wp2
            go_ret
            exact ⟨ret_bool (by rw [HG.out, HD.out, List.all_cons, HT.out]; rfl), hb.trans ((B1 _).mono hb.size)⟩
          obtain ⟨s, v, es, hsl, hvs, hg⟩ := getI_in (vs := f.slots) (i := t.slot) (by simp [inR]; omega)
          by_cases g3 : t.other < -1
          · have HT : Hid (tHolds t f.slots = false) := show tHolds t f.slots = false from by simp [tHolds, hg, show ¬ t.other = -1 by omega, getI_out (vs := f.slots) (i := t.other) (by simp [inR]; omega)]
            go_wp2
            go_ret
            exact ⟨ret_bool (by rw [HG.out, HD.out, List.all_cons, HT.out]; rfl), hb.trans ((B1 _).mono hb.size)⟩
          by_cases g4 : (f.slots.length : Int) ≤ t.other
          · have HT : Hid (tHolds t f.slots = false) := show tHolds t f.slots = false from by simp [tHolds, hg, show ¬ t.other = -1 by omega, getI_out (vs := f.slots) (i := t.other) (by simp [inR]; omega)]
            go_wp2
            go_ret
            exact ⟨ret_bool (by rw [HG.out, HD.out, List.all_cons, HT.out]; rfl), hb.trans ((B1 _).mono hb.size)⟩
          obtain ⟨bv, ov, rfl, x0, x1, x2⟩ := (hv.below hb) s v hvs
          have y0 : ∀ o o1, ((wr.alloc o).alloc o1).cell? ⟨bv, ov + s * 3, none⟩ = _ := fun o o1 => cell_below (BB o o1) x0
          have y1 : ∀ o o1, ((wr.alloc o).alloc o1).cell? ⟨bv, ov + s * 3 + 1, none⟩ = _ := fun o o1 => cell_below (BB o o1) x1
          have y2 : ∀ o o1, ((wr.alloc o).alloc o1).cell? ⟨bv, ov + s * 3 + 2, none⟩ = _ := fun o o1 => cell_below (BB o o1) x2
          have z0 : (0 : Int) ≤ (s : Int) := by omega
          have z1 : (s : Int) < (f.slots.length : Int) := by omega
          have z2 : ¬ (s : Int) < 0 := by omega
          have z3 : ¬ (f.slots.length : Int) ≤ (s : Int) := by omega
          by_cases g5 : t.other = -1
          · have HT : Hid (tHolds t f.slots = meets t.op v t.val) := show tHolds t f.slots = _ from by simp [tHolds, hg, g5]
            have hT := hidA (fun w' => l3Holds_any v t.val t.op w')
            rw [es] at c0
            rw [g5] at c2
            clear g1 g2 g3 g4 g5 es hg hvs x0 x1 x2 hsl
            cases hm : meets t.op v t.val
            all_goals
              rw [hm] at hT HT
              go_wp2
              first
              | (go_region_held3 (fun w' => w'.cell? ⟨wr.heap.size, 0, none⟩ = some (.int .i64 (s : Int)) ∧ w'.cell? ⟨wr.heap.size, 1, none⟩ = some (.int .i64 t.op) ∧ w'.cell? ⟨w.heap.size + 1, 2, none⟩ = some (.slice (some ⟨bv, ov, none⟩) f.slots.length c) ∧ w'.cell? ⟨bv, ov + s * 3, none⟩ = some (.int .i64 v.kind) ∧ w'.cell? ⟨bv, ov + s * 3 + 1, none⟩ = some (.int .i64 v.num) ∧ w'.cell? ⟨bv, ov + s * 3 + 2, none⟩ = some (.string v.sym) ∧ w'.cell? ⟨wr.heap.size + 1, 0, none⟩ = some (.int .i64 t.val.kind) ∧ w'.cell? ⟨wr.heap.size + 1, 1, none⟩ = some (.int .i64 t.val.num) ∧ w'.cell? ⟨wr.heap.size + 1, 2, none⟩ = some (.string t.val.sym)) ((go_split_ands; refine ⟨?_, ?_, ?_, ?_, ?_, ?_, ?_, ?_, ?_⟩ <;> first | (simp [go_sem, *]; done) | exact cell_below hb' (by assumption))) (first | (go_at_call 35; refine (hT.out _).mono ?_; rintro e w' ⟨rfl, hb'⟩) | fail))
              | fail
              go_wp2
            · go_ret
              exact ⟨ret_bool (by rw [HG.out, HD.out, List.all_cons, HT.out]; rfl), hb.trans (((BB _ _).drew.trans (hb'.mono (by simp; omega))).mono hb.size)⟩
            · go_roundw
              case rel => exact ⟨k + 1, by omega, by go_num, by rw [HG.out, HD.out, List.all_cons, HT.out]; rfl, HBX.out.below ((BB _ _).drew.trans (hb'.mono (by simp; omega))), hb.trans (((BB _ _).drew.trans (hb'.mono (by simp; omega))).mono hb.size)⟩
              case measure => simp [intOf]; omega
          · obtain ⟨r, u, er, hrl, hvr, hgr⟩ := getI_in (vs := f.slots) (i := t.other) (by simp [inR]; omega)
            obtain ⟨b3, o3, e3, v0, v1, v2⟩ := (hv.below hb) r u hvr
            cases e3
            have HT : Hid (tHolds t f.slots = meets t.op v u) := show tHolds t f.slots = _ from by simp [tHolds, hg, g5, hgr]
            have hT := hidA (fun w' => l3Holds_any v u t.op w')
            have m0 : ∀ o o1, ((wr.alloc o).alloc o1).cell? ⟨bv, ov + r * 3, none⟩ = _ := fun o o1 => cell_below (BB o o1) v0
            have m1 : ∀ o o1, ((wr.alloc o).alloc o1).cell? ⟨bv, ov + r * 3 + 1, none⟩ = _ := fun o o1 => cell_below (BB o o1) v1
            have m2 : ∀ o o1, ((wr.alloc o).alloc o1).cell? ⟨bv, ov + r * 3 + 2, none⟩ = _ := fun o o1 => cell_below (BB o o1) v2
            have n0 : (0 : Int) ≤ (r : Int) := by omega
            have n1 : (r : Int) < (f.slots.length : Int) := by omega
            have n2 : ¬ (r : Int) < -1 := by omega
            have n3 : ¬ (f.slots.length : Int) ≤ (r : Int) := by omega
            rw [es] at c0
            rw [er] at c2
            clear g1 g2 g3 g4 g5 es hg hvs x0 x1 x2 hsl er hrl hvr hgr v0 v1 v2
            cases hm : meets t.op v u
            all_goals
              rw [hm] at hT HT
              go_wp2
              first
              | (go_region_held3 (fun w' => w'.cell? ⟨wr.heap.size, 0, none⟩ = some (.int .i64 (s : Int)) ∧ w'.cell? ⟨wr.heap.size, 1, none⟩ = some (.int .i64 t.op) ∧ w'.cell? ⟨w.heap.size + 1, 2, none⟩ = some (.slice (some ⟨bv, ov, none⟩) f.slots.length c) ∧ w'.cell? ⟨bv, ov + s * 3, none⟩ = some (.int .i64 v.kind) ∧ w'.cell? ⟨bv, ov + s * 3 + 1, none⟩ = some (.int .i64 v.num) ∧ w'.cell? ⟨bv, ov + s * 3 + 2, none⟩ = some (.string v.sym) ∧ w'.cell? ⟨wr.heap.size + 1, 0, none⟩ = some (.int .i64 u.kind) ∧ w'.cell? ⟨wr.heap.size + 1, 1, none⟩ = some (.int .i64 u.num) ∧ w'.cell? ⟨wr.heap.size + 1, 2, none⟩ = some (.string u.sym)) ((go_split_ands; refine ⟨?_, ?_, ?_, ?_, ?_, ?_, ?_, ?_, ?_⟩ <;> first | (simp [go_sem, *]; done) | exact cell_below hb' (by assumption))) (first | (go_at_call 35; refine (hT.out _).mono ?_; rintro e w' ⟨rfl, hb'⟩) | fail))
              | fail
              go_wp2
            · go_ret
              exact ⟨ret_bool (by rw [HG.out, HD.out, List.all_cons, HT.out]; rfl), hb.trans (((BB _ _).drew.trans (hb'.mono (by simp; omega))).mono hb.size)⟩
            · go_roundw
              case rel => exact ⟨k + 1, by omega, by go_num, by rw [HG.out, HD.out, List.all_cons, HT.out]; rfl, HBX.out.below ((BB _ _).drew.trans (hb'.mono (by simp; omega))), hb.trans (((BB _ _).drew.trans (hb'.mono (by simp; omega))).mono hb.size)⟩
              case measure => simp [intOf]; omega
        · go_wp2
          go_ret
          exact ⟨ret_bool (by rw [HG.out, List.drop_eq_nil_of_le (by omega)]; rfl), hb⟩
    · have HN : Hid (passes x f = false) := passes_len hn
      have hn' : ((f.slots.length : Int) != x.arity) = true := by simp [hn]
      go_enter Tryz.func13, Tryz.ntmps13
      go_wp2
      go_ret
      exact ⟨ret_bool HN.out.symm, B2 _ _⟩
  · have HN : Hid (passes x f = false) := passes_cls hc
    go_enter Tryz.func13, Tryz.ntmps13
    go_wp2
    go_ret
    exact ⟨ret_bool HN.out.symm, B2 _ _⟩
end Go.Proofs.YtmmdlgjmplddiaaGreat
