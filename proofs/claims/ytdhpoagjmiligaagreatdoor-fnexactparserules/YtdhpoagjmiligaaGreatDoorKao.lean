/-
  OUR OWN TEXT. Sx9, Sx10, one behind the other.
-/
import Derived.Test.YtdhpoagjmiligaaGreatDoorKan
import Derived.WalkMore
namespace Go.Proofs.YtdhpoagjmiligaaGreatDoor
open Go.RowKit
attribute [local go_sem ↓] Go.wp_at_zero Go.wp_at_succ

theorem idx_line : ∀ l : Bs, (Lib.indexByte l 10 = -1 ∧ runOf lineP l = l.length) ∨ Lib.indexByte l 10 = (runOf lineP l : Int)
  | [] => .inl ⟨rfl, rfl⟩
  | b :: l => by
    unfold Lib.indexByte
    by_cases h : b = 10
    · right
      subst h
      rfl
    · have e1 : (b == 10) = false := beq_eq_false_iff_ne.2 h
      have e2 : runOf lineP (b :: l) = runOf lineP l + 1 := by
        unfold runOf
        rw [List.takeWhile_cons_of_pos (by unfold lineP; simpa using h)]
        rfl
      rw [e1, e2]
      rcases idx_line l with ⟨h1, h2⟩ | h1
      · left
        rw [h1, h2]
        exact ⟨rfl, rfl⟩
      · right
        have h3 : (Lib.indexByte l 10 == -1) = false := beq_eq_false_iff_ne.2 (by omega)
        rw [h3, h1]
        simp
/-- A comment's end. -/
def lineEnd (src : Bs) (k : Nat) : Nat := k + runOf lineP (src.drop k)
theorem index_rest {src : Bs} {b o : Nat} {w : World} (hv : BysAt w (some ⟨b, o, none⟩) src) (k : Nat) (c : Nat) (hk : k ≤ src.length) : Calls Tryz.prog 129 #[.slice (some ⟨b, o + k, none⟩) (src.length - k) c, .int .u8 10] w fun e w' => e = .returned (.int .i64 (Lib.indexByte (src.drop k) 10)) ∧ w' = w := by
  refine (Tryz.bytes_IndexByte b (o + k) (src.length - k) c ((src.drop k).map fun x => (x.toNat : Int)) 10 w (by simp) (fun i hi => ?_)).mono fun e w1 h => ⟨?_, h.2⟩
  · have hx : src[k + i]? = some (src[k + i]'(by omega)) := by simp
    obtain ⟨b', o', e, _, hc⟩ := hv (k + i) _ hx
    simp only [Option.some.injEq, Addr.mk.injEq, and_true] at e
    obtain ⟨rfl, rfl⟩ := e
    rw [Nat.add_assoc, hc]
    simp [hi]
  · have e1 : Lib.bytesOf ((src.drop k).map fun x => (x.toNat : Int)) = src.drop k := by
      unfold Lib.bytesOf
      rw [List.map_map]
      exact List.map_id'' (fun x => by simp) _
    rw [h.1, e1]
    rfl
theorem turned_drew {w w' : World} {b : Nat} (h : Turned w.drew w' b) : Turned w w' b := ⟨h.os, h.tape, h.output, h.size, h.block⟩
set_option maxRecDepth 100000 in
set_option maxHeartbeats 3200000 in
theorem skipComment_any (src : Bs) (b o c sb so k : Nat) (t : TypeId) (cs : Array Value) (w : World) (hv : BysAt w (some ⟨b, o, none⟩) src) (hl : src.length ≤ 20000) (hcap : src.length ≤ c) (hk : k < src.length) (hb : w.heap[sb]? = some (.cells cs t (0, 0))) (h0 : cs[so]? = some (.slice (some ⟨b, o, none⟩) src.length c)) (h1 : cs[so + 1]? = some (.int .i64 (k : Int))) : Calls Tryz.prog 122 #[.pointer (some ⟨sb, so, none⟩)] w fun e w' => e = .returned (.tuple #[]) ∧ w'.heap[sb]? = some (.cells (cs.setIfInBounds (so + 1) (.int .i64 (lineEnd src k : Int))) t (0, 0)) ∧ Turned w w' sb := by
  have c0 : w.cell? ⟨sb, so, none⟩ = some (.slice (some ⟨b, o, none⟩) src.length c) := by simp [World.cell?, hb, h0]
  have c1 : w.cell? ⟨sb, so + 1, none⟩ = some (.int .i64 (k : Int)) := by simp [World.cell?, hb, h1]
  have z1 : w.frozen? ⟨sb, so + 1, none⟩ = false := by simp [World.frozen?, hb]
  have HI : Hid (∀ c', Calls Tryz.prog 129 #[.slice (some ⟨b, o + k, none⟩) (src.length - k) c', .int .u8 10] w.drew fun e w' => e = .returned (.int .i64 (Lib.indexByte (src.drop k) 10)) ∧ w' = w.drew) := fun c' => index_rest (hv.below (below_drew1 (Below.refl _ _))) k c' (by omega)
  have hck : ¬ c = k := by omega
  have s0 : (0 : Int) ≤ (k : Int) := by omega
  have s1 : (k : Int) ≤ (src.length : Int) := by omega
  have s2 : (src.length : Int) ≤ (c : Int) := by omega
  go_enter Tryz.func122, Tryz.ntmps122
  go_wp2_with fail
  go_region_held3 (fun w' => w'.cell? ⟨sb, so, none⟩ = some (.slice (some ⟨b, o, none⟩) src.length c) ∧ w'.cell? ⟨sb, so + 1, none⟩ = some (.int .i64 (k : Int))) ((go_split_ands; refine ⟨?_, ?_⟩ <;> first | assumption | (simp [*]; done)))
    (first | (go_at_call 129; refine (HI.out _).mono ?_; rintro e w1 ⟨rfl, hw⟩; rw [hw]; clear hw w1))
  have hrl : runOf lineP (src.drop k) ≤ src.length - k := by
    have := (List.takeWhile_sublist lineP (l := src.drop k)).length_le
    rw [List.length_drop] at this
    exact this
  have d1 : w.drew.cell? ⟨sb, so + 1, none⟩ = some (.int .i64 (k : Int)) := c1
  have d0 : w.drew.cell? ⟨sb, so, none⟩ = some (.slice (some ⟨b, o, none⟩) src.length c) := c0
  have y1 : w.drew.frozen? ⟨sb, so + 1, none⟩ = false := z1
  rcases idx_line (src.drop k) with ⟨g1, g2⟩ | g1
  · have HLE : Hid (lineEnd src k = src.length) := show _ = _ from by
      unfold lineEnd
      rw [g2, List.length_drop]
      omega
    have g3 : Lib.indexByte (src.drop k) 10 < 0 := by omega
    clear g1 g2
    go_wp2
    refine bodyPost_ret (v := .tuple #[]) (by simp [results, Tryz.results122]) rfl ⟨rfl, ?_, ?_⟩
    · rw [HLE.out]
      exact heap_setCell_same (w := w.drew) hb _
    · exact turned_drew (Turned.setCells [_] (so + 1) w.drew sb)
  · have g3 : ¬ Lib.indexByte (src.drop k) 10 < 0 := by omega
    have hadd : wrap64 ((k : Int) + Lib.indexByte (src.drop k) 10) = (lineEnd src k : Int) := by
      rw [g1]
      unfold lineEnd wrap64
      omega
    clear g1
    go_wp2
    refine bodyPost_end (results_none rfl _ _ _) rfl ⟨rfl, ?_, ?_⟩
    · exact heap_setCell_same (w := w.drew) hb _
    · exact turned_drew (Turned.setCells [_] (so + 1) w.drew sb)
end Go.Proofs.YtdhpoagjmiligaaGreatDoor

namespace Go.Proofs.YtdhpoagjmiligaaGreatDoor
open Go.RowKit
attribute [local go_sem ↓] Go.wp_at_zero Go.wp_at_succ

theorem set_same {cs : Array Value} {i : Nat} {v : Value} (h : cs[i]? = some v) : cs.setIfInBounds i v = cs := by
  apply Array.ext_getElem?
  intro j
  rw [Array.getElem?_setIfInBounds]
  by_cases hj : i = j
  · subst hj
    obtain ⟨h1, h2⟩ := Array.getElem?_eq_some_iff.1 h
    simp [h1, h2]
  · simp [hj]
theorem set_twice (cs : Array Value) (i : Nat) (u v : Value) : (cs.setIfInBounds i u).setIfInBounds i v = cs.setIfInBounds i v := by
  apply Array.ext_getElem?
  intro j
  by_cases hj : i = j
  · subst hj
    simp [Array.getElem?_setIfInBounds]
  · simp [hj]
theorem Turned.drew' {w w' : World} {b : Nat} (h : Turned w w' b) : Turned w w'.drew b := ⟨h.os, h.tape, h.output, h.size, h.block⟩
theorem Turned.trans' {w w' w'' : World} {b : Nat} (h : Turned w w' b) (g : Turned w' w'' b) : Turned w w'' b := ⟨g.os.trans h.os, g.tape.trans h.tape, g.output.trans h.output, g.size.trans h.size, fun k hk => (g.block k hk).trans (h.block k hk)⟩
theorem atOf_at {sb so n : Nat} {w : World} {t : TypeId} {cs : Array Value} (h : w.heap[sb]? = some (.cells (cs.setIfInBounds (so + 1) (.int .i64 (n : Int))) t (0, 0))) (hso : so + 1 < cs.size) : w.cell? ⟨sb, so + 1, none⟩ = some (.int .i64 (n : Int)) := by
  simp [World.cell?, h, hso]
theorem lineEnd_gt {src : Bs} {j : Nat} (h : src[j]? = some 59) : j < lineEnd src j ∧ lineEnd src j ≤ src.length := by
  have hj : j < src.length := (List.getElem?_eq_some_iff.1 h).1
  have e : src.drop j = 59 :: src.drop (j + 1) := by
    rw [List.drop_eq_getElem_cons hj, (List.getElem?_eq_some_iff.1 h).2]
  have h2 := run_le lineP (src.drop j)
  have h3 : 1 ≤ runOf lineP (src.drop j) := by
    rw [e]
    unfold runOf
    rw [List.takeWhile_cons_of_pos line59]
    simp
  rw [List.length_drop] at h2
  unfold lineEnd
  omega
def atOf (sb so : Nat) (w : World) : Nat := match w.cell? ⟨sb, so + 1, none⟩ with
  | some v => (intOf v).toNat
  | none => 0
theorem moved {sb so n j : Nat} {w : World} {t : TypeId} {cs : Array Value} (h : w.heap[sb]? = some (.cells (cs.setIfInBounds (so + 1) (.int .i64 (j : Int))) t (0, 0))) (v : Value) (hv : v = .int .i64 (n : Int)) : ((w.drew.drew).setCell ⟨sb, so + 1, none⟩ v).heap[sb]? = some (.cells (cs.setIfInBounds (so + 1) (.int .i64 (n : Int))) t (0, 0)) := by
  subst hv
  have := heap_setCell_same (w := w.drew.drew) (i := so + 1) h (.int .i64 (n : Int))
  rw [set_twice] at this
  exact this
theorem atOf_moved {sb so n j : Nat} {w : World} {t : TypeId} {cs : Array Value} (hso : so + 1 < cs.size) (h : w.heap[sb]? = some (.cells (cs.setIfInBounds (so + 1) (.int .i64 (j : Int))) t (0, 0))) (v : Value) (hv : v = .int .i64 (n : Int)) : atOf sb so ((w.drew.drew).setCell ⟨sb, so + 1, none⟩ v) = n := by
  unfold atOf
  rw [atOf_at (moved h v hv) hso]
  simp [intOf]
/-- What skip leaves: the offset of the next word. -/
def SkPost (src : Bs) (k sb so : Nat) (t : TypeId) (cs : Array Value) (w : World) (w' : World) : Prop := ∃ j, k ≤ j ∧ j ≤ src.length ∧ wordsAt src j = wordsAt src k ∧ (∀ x, src[j]? = some x → blankB x = false ∧ x ≠ 59) ∧ w'.heap[sb]? = some (.cells (cs.setIfInBounds (so + 1) (.int .i64 (j : Int))) t (0, 0)) ∧ Turned w w' sb
set_option maxRecDepth 100000 in
set_option maxHeartbeats 3200000 in
theorem skip_any (src : Bs) (a : Option Addr) (c sb so k : Nat) (t : TypeId) (cs : Array Value) (w : World) (hv : BysAt w a src) (hfar : ∀ b o, a = some ⟨b, o, none⟩ → b ≠ sb) (hl : src.length ≤ 20000) (hcap : src.length ≤ c) (hk : k ≤ src.length) (hb : w.heap[sb]? = some (.cells cs t (0, 0))) (h0 : cs[so]? = some (.slice a src.length c)) (h1 : cs[so + 1]? = some (.int .i64 (k : Int))) : Calls Tryz.prog 115 #[.pointer (some ⟨sb, so, none⟩)] w fun e w' => e = .returned (.tuple #[]) ∧ SkPost src k sb so t cs w w' := by
  have HV := hidX hv
  have HFAR := hidX hfar
  have HB := hidX hb
  have H0 := hidX h0
  have H1 := hidX h1
  have hso : so + 1 < cs.size := (Array.getElem?_eq_some_iff.1 h1).1
  clear hv hfar hb h0 h1
  go_enter Tryz.func115, Tryz.ntmps115
  go_step3
  go_wp2
  go_step3
  go_wp2
  go_loopw [2] (fun _ wr => ∃ j : Nat, k ≤ j ∧ j ≤ src.length ∧ wordsAt src j = wordsAt src k ∧ wr.heap[sb]? = some (.cells (cs.setIfInBounds (so + 1) (.int .i64 (j : Int))) t (0, 0)) ∧ Turned w wr sb) (fun _ wr => src.length - atOf sb so wr)
  case atStart => exact ⟨k, Nat.le_refl _, hk, rfl, by rw [set_same H1.out]; exact HB.out, ⟨rfl, rfl, rfl, rfl, fun _ _ => rfl⟩⟩
  case round =>
    obtain ⟨j, hkj, hj, hwd, hbr, htr⟩ := hrel
    have c0 : wr.cell? ⟨sb, so, none⟩ = some (.slice a src.length c) := by
      simp [World.cell?, hbr, H0.out]
    have c1 : wr.cell? ⟨sb, so + 1, none⟩ = some (.int .i64 (j : Int)) := by
      simp [World.cell?, hbr, hso]
    by_cases hjl : j < src.length
    · obtain ⟨x, hx⟩ : ∃ x, src[j]? = some x := ⟨src[j], by simp [hjl]⟩
      have hstep := wordsAt_step hx
      obtain ⟨b, o, rfl, hlt, hcw⟩ := HV.out j x hx
      have hbs : b ≠ sb := HFAR.out b o rfl
      have hc : wr.cell? ⟨b, o + j, none⟩ = some (.int .u8 (x.toNat : Int)) := (htr.cell hbs).trans hcw
      have z1 : wr.frozen? ⟨sb, so + 1, none⟩ = false := by simp [World.frozen?, hbr]
      have k0 : (0 : Int) ≤ (j : Int) := by omega
      have k1 : (j : Int) < (src.length : Int) := by omega
      have HBR := hidX hbr
      have HTR := hidX htr
      have HBL := hidX (isBlank_any x)
      have HM : Hid (atOf sb so wr = j) := show _ = _ from by unfold atOf; rw [c1]; simp [intOf]
      have hbv : BysAt wr (some ⟨b, o, none⟩) src := fun i y hy => by
        obtain ⟨b', o', e, h1, h2⟩ := HV.out i y hy
        exact ⟨b', o', e, by rw [HTR.out.size]; exact h1, (HTR.out.cell (HFAR.out b' o' e)).trans h2⟩
      have HBV := hidX hbv
      clear hcw hbr htr hlt hbv
      by_cases hbl : blankB x = true
      · rw [if_pos hbl] at hstep
        have HS : Hid (wordsAt src (j + 1) = wordsAt src k) := show _ = _ from by rw [← hstep, hwd]
        rw [hbl] at HBL
        clear hstep hbl hwd
        go_wp2_with fail
        go_region
        go_wp2_with fail
        go_region
        go_wp2_with (go_at_call 121; refine (HBL.out _).mono ?_; rintro e w1 ⟨rfl, hw⟩; rw [hw]; clear hw w1)
        go_roundw
        case rel => exact ⟨j + 1, by omega, by omega, HS.out, moved HBR.out _ (by go_num), HTR.out.drew'.drew'.trans' (Turned.setCells [_] (so + 1) _ sb)⟩
        case measure =>
          rw [HM.out]
          have e := atOf_moved (n := j + 1) hso HBR.out (.int .i64 ((j : Int) + 1)) (by go_num)
          change _ - atOf sb so ((wr.drew.drew).setCell ⟨sb, so + 1, none⟩ (.int .i64 ((j : Int) + 1))) < _
          rw [e]
          omega
      · have hbf : blankB x = false := by simpa using hbl
        rw [if_neg hbl] at hstep
        rw [hbf] at HBL
        by_cases h59 : x = 59
        · rw [if_pos h59] at hstep
          have HS : Hid (wordsAt src (lineEnd src j) = wordsAt src k) := show _ = _ from by unfold lineEnd; rw [← hstep, hwd]
          obtain ⟨hg1, hg2⟩ := lineEnd_gt (h59 ▸ hx)
          have he : ((x.toNat : Int) == 59) = true := by rw [h59]; rfl
          have HSC := hidX (skipComment_any src b o c sb so j t (cs.setIfInBounds (so + 1) (.int .i64 (j : Int))) wr.drew.drew (fun i y hy => HBV.out i y hy) hl hcap hjl HBR.out (by simp [H0.out]) (by simp [hso]))
          clear hstep hbl hbf hwd h59
          go_wp2_with fail
          go_region
          go_wp2_with fail
          go_region
          go_wp2_with (first | (go_at_call 121; refine (HBL.out _).mono ?_; rintro e w1 ⟨rfl, hw⟩; rw [hw]; clear hw w1) | (go_at_call 122; refine HSC.out.mono ?_; rintro e w1 ⟨rfl, hb1, ht1⟩) | fail)
          rw [set_twice] at hb1
          go_roundw
          case rel => exact ⟨lineEnd src j, by omega, hg2, HS.out, hb1, HTR.out.drew'.drew'.trans' ht1⟩
          case measure =>
            rw [HM.out, show atOf sb so w1 = lineEnd src j by unfold atOf; rw [atOf_at hb1 hso]; simp [intOf]]
            omega
        · have he : ((x.toNat : Int) == 59) = false := beqF fun h => h59 (byteN.1 (by rw [h]; rfl))
          clear hstep hbl
          go_wp2_with fail
          go_region
          go_wp2_with fail
          go_region
          go_wp2_with (go_at_call 121; refine (HBL.out _).mono ?_; rintro e w1 ⟨rfl, hw⟩; rw [hw]; clear hw w1)
          rw [Exit.noGoto_normal]
          refine bodyPost_end (results_none rfl _ _ _) rfl ⟨rfl, j, hkj, hj, hwd, fun y hy => ?_, HBR.out, HTR.out.drew'.drew'⟩
          rw [hx] at hy
          injection hy with hy
          subst hy
          exact ⟨hbf, h59⟩
    · obtain rfl : j = src.length := by omega
      have j1 : ¬ (src.length : Int) < (src.length : Int) := by omega
      go_wp2_with fail
      go_region
      go_wp2
      rw [Exit.noGoto_normal]
      refine bodyPost_end (results_none rfl _ _ _) rfl ⟨rfl, src.length, hkj, Nat.le_refl _, hwd, fun x hx => ?_, hbr, htr.drew'⟩
      rw [List.getElem?_eq_none (Nat.le_refl _)] at hx
      cases hx
end Go.Proofs.YtdhpoagjmiligaaGreatDoor
