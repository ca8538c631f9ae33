/-
  OUR OWN TEXT. Sc6a, Yc2, Sc6, Ic12, Yc3, one behind the other.
-/
import Derived.Test.YtgkoiojelckblaaGreatDoorSc2m
import Derived.Test.YtgkoiojelckblaaGreatDoorKay
import Derived.Test.YtgkoiojelckblaaGreatDoorKaz
import Derived.Deep.DrawnRows
import Derived.BigQuiet
import Derived.Deep.RegionHeld3
namespace Go.Proofs.YtgkoiojelckblaaGreatDoor
open Go.RowKit

theorem StrsAt.owns {w : World} {base n : Nat} {a : Option Addr} {c : Nat} {xs : List ByteArray} (h : w.ownsRow base 9 1 (.slice a n c) n (xs.map Value.string)) : StrsAt none w a xs := by
  intro i s hs
  have k0 : (xs.map Value.string)[i]? = some (.string s) := by simp [hs]
  obtain ⟨g, rfl, _, h0, _⟩ := owns_cell h k0
  refine ⟨g, 0, [.string s], rfl, Qb.bare _ _ _, rfl, ?_, rfl⟩
  intro j v hj
  have hj0 : j = 0 := by
    have := (List.getElem?_eq_some_iff.1 hj).1
    simp at this
    exact this
  subst hj0
  simp at hj
  subst hj
  simpa using h0
theorem owns_none {w : World} {base n : Nat} {a : Option Addr} {c : Nat} {xs : List ByteArray} (h : w.ownsRow base 9 1 (.slice a n c) n (xs.map Value.string)) (ha : a = none) : xs.length = 0 := by
  cases xs with
  | nil => rfl
  | cons x r =>
    obtain ⟨g, hg, _⟩ := owns_cell h (j := 0) (x := .string x) (by simp)
    rw [ha] at hg
    cases hg
theorem infoStr : (Tryz.prog.info? 9).map (fun i => (i.zero, i.size, i.bytes)) = some (some (.string ByteArray.empty), 1, 16) := by kernel_rfl
theorem strs_one (xs : List ByteArray) : ∀ u ∈ xs.map Value.string, u.oneCell' = true := by
  intro u hu
  obtain ⟨s, _, rfl⟩ := List.mem_map.1 hu
  rfl
theorem strs_news {w : World} {q : Option Nat} {a : Option Addr} {xs : List ByteArray} (h : StrsAt q w a xs) : ∀ ad, a = some ad → ∀ (j : Nat) u, (xs.map Value.string)[j]? = some u → w.cell? (ad.add j) = some u := by
  intro ad hd j u hu
  rw [List.getElem?_map] at hu
  cases hx : xs[j]? with
  | none => rw [hx] at hu; cases hu
  | some s =>
    rw [hx] at hu
    simp at hu
    subst hu
    obtain ⟨b, o, rfl, _, hc⟩ := h.get hx
    cases hd
    rw [Addr.add_mid]
    exact hc

theorem shape_acts {x : Ru} (h : shape x = none) : actsGo (spansGo [] x.exprs) x.acts 0 1 = none := by
  unfold shape at h
  split at h
  · split at h
    · cases h
    · split at h
      · cases h
      · exact h
  · cases h
theorem gAc_args {S : List Sp} {y : Ac} {nx n : Nat} (h : gAc S y nx = some n) : argsGo S y.args nx = some n := by
  unfold gAc at h
  split at h
  · exact h
  · cases h
theorem argsGo_one {S : List Sp} {x : Int} {r : List Int} {nx n : Nat} (h : argsGo S (x :: r) nx = some n) : ∃ (x0 : Nat) (s0 : Sp), x = (x0 : Int) ∧ S[x0]? = some s0 ∧ s0.1 = nx ∧ argsGo S r (x0 + 1) = some n := by
  rw [argsGo_cons] at h
  split at h
  · rename_i hc
    simp only [Bool.and_eq_true, decide_eq_true_eq] at hc
    obtain ⟨h0, h1, h2⟩ := hc
    obtain ⟨x0, rfl⟩ := Int.eq_ofNat_of_zero_le h0
    have hx : x0 < S.length := by omega
    refine ⟨x0, S[x0], rfl, by simp, ?_, h⟩
    simpa [hx] using h2
  · cases h
theorem argsGo_le {es : List Ex} {S : List Sp} (hS : Spans es S) : ∀ {l : List Int} {nx n : Nat}, argsGo S l nx = some n → nx ≤ n
  | [], nx, n, h => by
    have : some nx = some n := h
    injection this with this
    omega
  | x :: r, nx, n, h => by
    obtain ⟨x0, s0, rfl, hs, rfl, hr⟩ := argsGo_one h
    have h1 := argsGo_le hS hr
    have h2 := hS.first_le x0 s0 hs
    omega
theorem argsGo_last {S : List Sp} : ∀ {l : List Int} {nx n : Nat}, l ≠ [] → argsGo S l nx = some n → ∃ xl : Nat, l.getLast? = some (xl : Int) ∧ n = xl + 1 ∧ xl < S.length
  | [], _, _, h, _ => absurd rfl h
  | x :: r, nx, n, _, h => by
    obtain ⟨x0, s0, rfl, hs, rfl, hr⟩ := argsGo_one h
    cases r with
    | nil =>
      have : some (x0 + 1) = some n := hr
      injection this with this
      exact ⟨x0, rfl, this.symm, (List.getElem?_eq_some_iff.1 hs).1⟩
    | cons y r' =>
      obtain ⟨xl, h1, h2, h3⟩ := argsGo_last (l := y :: r') (by simp) hr
      exact ⟨xl, by simpa using h1, h2, h3⟩
theorem all_takeS {α : Type} {f : α → Bool} {l : List α} {j : Nat} {x : α} (h : l[j]? = some x) : (l.take (j + 1)).all f = ((l.take j).all f && f x) := by
  rw [List.take_add_one, h]
  simp
theorem all_take_false {α : Type} {f : α → Bool} {l : List α} {j m : Nat} {x : α} (h : l[j]? = some x) (hj : j < m) (hf : f x = false) : (l.take m).all f = false := by
  rw [List.all_eq_false]
  refine ⟨x, ?_, by simp [hf]⟩
  have : (l.take m)[j]? = some x := by rw [List.getElem?_take, if_pos hj, h]
  exact List.mem_of_getElem? this
theorem actVar_last {es : List Ex} {known : List ByteArray} {y : Ac} {xl : Nat} (h : y.args.getLast? = some (xl : Int)) : actVar es known y = (es.take (xl + 1)).all (knownE known) := by
  have h1 : y.args.isEmpty = false := by
    cases hy : y.args with
    | nil => rw [hy] at h; cases h
    | cons v r => rfl
  have h2 : upTo y = xl + 1 := by
    unfold upTo
    rw [h]
    rfl
  unfold actVar
  rw [h1, h2]
  rfl
/-- An item, -1 for none. -/
def itemM : Option Nat → Int
  | none => -1
  | some i => (i : Int)
end Go.Proofs.YtgkoiojelckblaaGreatDoor

namespace Go.Proofs.YtgkoiojelckblaaGreatDoor
open Go.RowKit
attribute [local go_sem ↓] Go.wp_at_zero Go.wp_at_succ

theorem cell_ltY {w : World} {b o : Nat} {x : Value} (h : w.cell? ⟨b, o, none⟩ = some x) : b < w.heap.size := by
  by_cases hp : b < w.heap.size
  · exact hp
  · have : w.heap[b]? = none := Array.getElem?_eq_none (by omega)
    simp [World.cell?, this] at h

theorem shape_no {x : Ru} {i : Nat} (h0 : Hid (shape x = none)) (hx : Hid (shape x = some i)) : False := by
  have h := h0.out
  rw [hx.out] at h
  cases h
set_option maxHeartbeats 3200000 in
theorem l2Shape_yes (x : Ru) (a_pats : Option Addr) (c_pats : Nat) (a_exprs : Option Addr) (c_exprs : Nat) (a_acts : Option Addr) (c_acts : Nat) {q : Option Nat} (w : World) (h_pats : PtsAt q w a_pats x.pats) (h_exprs : ExsAt q w a_exprs x.exprs) (h_acts : AcsAt q w a_acts x.acts) (hle : x.le 1048576) (ho : OpsOk x.exprs) (H0 : Hid (shape x = none)) :
    Calls Tryz.prog 52 #[.agg #[.string x.name, .int .i64 x.sal, .slice a_pats x.pats.length c_pats, .slice a_exprs x.exprs.length c_exprs, .slice a_acts x.acts.length c_acts]] w fun e w' => e = .returned (.int .i64 (-1)) ∧ Below w.heap.size w w' := by
  obtain ⟨hsn0, hsp, hse, hsa⟩ := hle
  have hsn : x.name.size ≤ maxLen := Nat.le_trans hsn0 mega_le
  have hpl := hsp.1
  have hel := hse.1
  have hal := hsa.1
  have B0 : ∀ o, Below w.heap.size w (w.alloc o) := fun o => (Below.refl _ _).alloc (Nat.le_refl _) _
  cases hg : gSym x.name.data.toList
  · have HN : Hid (shape x = some 0) := show shape x = some 0 from by simp [shape, headOk, hg]
    exact (shape_no H0 HN).elim
  by_cases l6 : 6 < x.pats.length
  · have l6' : (6 : Int) < (x.pats.length : Int) := by omega
    have HN : Hid (shape x = some 0) := show shape x = some 0 from by simp [shape, headOk]; omega
    exact (shape_no H0 HN).elim
  have l6' : ¬ (6 : Int) < (x.pats.length : Int) := by omega
  by_cases l8 : 8 < x.acts.length
  · have l8' : (8 : Int) < (x.acts.length : Int) := by omega
    have HN : Hid (shape x = some 0) := show shape x = some 0 from by simp [shape, headOk]; omega
    exact (shape_no H0 HN).elim
  have l8' : ¬ (8 : Int) < (x.acts.length : Int) := by omega
  by_cases l60 : 60 < x.exprs.length
  · have l60' : (60 : Int) < (x.exprs.length : Int) := by omega
    have HN : Hid (shape x = some 0) := show shape x = some 0 from by simp [shape, headOk]; omega
    exact (shape_no H0 HN).elim
  have l60' : ¬ (60 : Int) < (x.exprs.length : Int) := by omega
  have HH : Hid (shape x = match firstBad gPt x.pats 1 with | some i => some i | none => rest x) := shape_go x (by simp [headOk, hg]; omega)
  go_enter Tryz.func52, Tryz.ntmps52
  go_wp2_with (go_at_call 94; refine (l1GoodSym_any x.name _ hsn).mono ?_; rintro e w' ⟨rfl, rfl⟩)
  go_loopw [34] (fun i wr => ∃ (k : Nat), k ≤ x.pats.length ∧ i = .int .i64 k ∧ (shape x = match firstBad gPt (x.pats.drop k) (k + 1) with | some i => some i | none => rest x) ∧ RuBox wr w.heap.size x a_pats c_pats a_exprs c_exprs a_acts c_acts ∧ Below w.heap.size w wr) (fun i _ => x.pats.length - (intOf i).toNat)
  case atStart => exact ⟨0, by omega, rfl, HH.out, RuBox.made _ _ _ _ _ _ _ _ _, B0 _⟩
  case round =>
    obtain ⟨k, hk, rfl, hG, hbox, hb⟩ := hrel
    have HG : Hid (shape x = match firstBad gPt (x.pats.drop k) (k + 1) with | some i => some i | none => rest x) := hG
    clear hG
    by_cases hkl : k < x.pats.length
    · obtain ⟨p, hpk⟩ : ∃ p, x.pats[k]? = some p := ⟨x.pats[k], by simp [hkl]⟩
      obtain ⟨b, o, a_terms, c_terms, rfl, hq, c0, c1, c2, h_terms⟩ := (h_pats.below hb).get hpk
      have hpp := hsp.2 p (List.mem_of_getElem? hpk)
      have HD : Hid (x.pats.drop k = p :: x.pats.drop (k + 1)) := drop_cons hpk
      have B1 : ∀ o, Below wr.heap.size wr (wr.alloc o) := fun o => (Below.refl _ _).alloc (Nat.le_refl _) _
      cases hgp : gPt p
      · have HN : Hid (shape x = some (k + 1)) := show shape x = _ from by rw [HG.out, HD.out, firstBad_cons, hgp]; rfl
        exact (shape_no H0 HN).elim
      · go_wp2_with (go_at_call 95; refine (l2GoodPat_any p a_terms c_terms _ (h_terms.below (B1 _)) (Nat.le_trans hpp.1 mega_le) (hpp.2.mono mega_le (Tm.mono mega_le)) hpp.2.1).mono ?_; rintro e w1 ⟨rfl, hb1⟩)
        have HN : Hid (shape x = match firstBad gPt (x.pats.drop (k + 1)) (k + 1 + 1) with | some i => some i | none => rest x) := show shape x = _ from by rw [HG.out, HD.out, firstBad_cons, hgp]; rfl
        have hW1 : Below wr.heap.size wr w1 := (B1 _).trans (hb1.mono (by simp))
        go_roundw
        case rel => exact ⟨k + 1, by omega, by go_num, HN.out, hbox.below hW1, hb.trans (hW1.mono hb.size)⟩
        case measure => simp [intOf]; omega
    · have HR : Hid (shape x = rest x) := show shape x = rest x from by rw [HG.out, List.drop_eq_nil_of_le (by omega)]; rfl
      have HBX := hideIt hbox
      obtain ⟨q0, q1, q2, q3, q4⟩ := hbox
      go_wp2
      clear q0 q1 q2 q3 q4
      go_loopw [48] (fun i wr' => ∃ (S : List Sp), S.length ≤ x.exprs.length ∧ i = .int .i64 (S.length : Int) ∧ Spans x.exprs S ∧ spansGo [] x.exprs = spansGo S (x.exprs.drop S.length) ∧ RuBox wr' w.heap.size x a_pats c_pats a_exprs c_exprs a_acts c_acts ∧ Below w.heap.size w wr') (fun i _ => x.exprs.length - (intOf i).toNat)
      case atStart => exact ⟨[], by simp, rfl, Spans.nil _, rfl, HBX.out, hb⟩
      case round =>
        clear HBX hb HG hk hkl
        obtain ⟨S, hk, rfl, hS, hG, hbox, hb⟩ := hrel
        have HG := hideIt hG
        have HS := hideIt hS
        have HBX := hideIt hbox
        clear hG hS
        obtain ⟨q0, q1, q2, q3, q4⟩ := hbox
        by_cases hkl : S.length < x.exprs.length
        · obtain ⟨e, hek⟩ : ∃ e, x.exprs[S.length]? = some e := ⟨x.exprs[S.length], by simp [hkl]⟩
          have HD : Hid (x.exprs.drop S.length = e :: x.exprs.drop (S.length + 1)) := drop_cons hek
          have hee := (hse.mono mega_le (Ex.mono mega_le)).2 e (List.mem_of_getElem? hek)
          obtain ⟨ho0, ho1⟩ := ho e (List.mem_of_getElem? hek)
          cases hso : spanOf S e with
          | none =>
            have HN : Hid (shape x = some (S.length + 1)) := show shape x = _ from by
              have h1 : spansGo [] x.exprs = S := by rw [HG.out, HD.out, spansGo, hso]
              rw [HR.out]
              unfold rest
              rw [h1, if_pos hkl]
            exact (shape_no H0 HN).elim
          | some s =>
            have hGE := hideIt (fun w' h => l2GoodExpr_yes a_exprs c_exprs x.exprs S e w' (q := q) h (by omega) HS.out hek hee ho0 ho1 (by rw [hso]; rfl))
            have HN : Hid (spansGo [] x.exprs = spansGo (S ++ [s]) (x.exprs.drop (S.length + 1))) := show spansGo [] x.exprs = _ from by rw [HG.out, HD.out, spansGo, hso]
            go_wp2_with (go_at_call 96; refine (hGE.out _ (h_exprs.below hb)).mono ?_; rintro e' w1 ⟨rfl, hb1⟩)
            go_roundw
            case rel => exact ⟨S ++ [s], by simp; omega, by simp, HS.out.snoc hek hso, by rw [HN.out]; simp, HBX.out.below hb1, hb.trans (hb1.mono hb.size)⟩
            case measure => simp [intOf]; omega
        · have hfull : S.length = x.exprs.length := by omega
          have h1 : spansGo [] x.exprs = S := by
            rw [HG.out, List.drop_eq_nil_of_le (by omega)]
            rfl
          have HR2 : Hid (shape x = actsGo S x.acts 0 1) := show shape x = _ from by
            rw [HR.out]
            unfold rest
            rw [h1, if_neg (by omega)]
          have HFL := hideIt hfull
          clear h1 HG HR hfull
          have hwl : w.heap.size < wr.heap.size := cell_ltY q0
          go_wp2
          obtain ⟨wo, rfl⟩ : ∃ u, u = wr := ⟨wr, rfl⟩
          have hbo : Below w.heap.size w (wo.alloc (.cells #[.int .i64 0] 3)) := hb.alloc hb.size _
          have hbx0 := HBX.out.below (w' := wo.alloc (.cells #[.int .i64 0] 3)) ((Below.refl _ _).alloc (Nat.le_refl _) _)
          clear q0 q1 q2 q3 q4 HBX
          go_loopw [62] (fun i wr' => ∃ (k nk : Nat), k ≤ x.acts.length ∧ i = .int .i64 k ∧ nk ≤ 60 ∧ shape x = actsGo S (x.acts.drop k) nk (k + 1) ∧ wr'.cell? ⟨wo.heap.size, 0, none⟩ = some (.int .i64 (nk : Int)) ∧ wr'.frozen? ⟨wo.heap.size, 0, none⟩ = false ∧ wo.heap.size < wr'.heap.size ∧ RuBox wr' w.heap.size x a_pats c_pats a_exprs c_exprs a_acts c_acts ∧ Below w.heap.size w wr') (fun i _ => x.acts.length - (intOf i).toNat)
          case atStart => exact ⟨0, 0, by omega, rfl, by omega, HR2.out, by simp [go_sem], by simp [go_sem], by simp, hbx0, hbo⟩
          case round =>
            clear hbo hbx0 hb
            obtain ⟨k, nk, hk2, rfl, hnk, hG, hp1, hf1, hpl1, hbox, hb⟩ := hrel
            have HG := hideIt hG
            have HBX := hideIt hbox
            clear hG
            obtain ⟨q0, q1, q2, q3, q4⟩ := hbox
            by_cases hkl2 : k < x.acts.length
            · obtain ⟨y, hyk⟩ : ∃ y, x.acts[k]? = some y := ⟨x.acts[k], by simp [hkl2]⟩
              obtain ⟨b, o, a_args, c_args, rfl, hq, c0, c1, c2, c3, h_args0⟩ := h_acts.get hyk
              have d0 := cell_below hb c0
              have d1 := cell_below hb c1
              have d2 := cell_below hb c2
              have d3 := cell_below hb c3
              clear c0 c1 c2 c3
              have hyy := hsa.2 y (List.mem_of_getElem? hyk)
              have HD : Hid (x.acts.drop k = y :: x.acts.drop (k + 1)) := drop_cons hyk
              have hBw : ∀ o, Below wr.heap.size wr (wr.alloc o) := fun o => (Below.refl _ _).alloc (Nat.le_refl _) _
              have hBa : ∀ o, Below w.heap.size w (wr.alloc o) := fun o => hb.alloc hb.size _
              have hGA := hideIt (fun w' h0 hp hf hpw => l2GoodAct_any x a_pats c_pats a_exprs c_exprs (some ⟨b, o, none⟩) c_acts y a_args c_args wo.heap.size nk S (q := q) w w' h0 h_exprs h_args0 HS.out HFL.out (by omega) (Nat.le_trans hyy.1 mega_le) hyy.2 hp hf (by omega) hpw hnk)
              have q0' : ∀ o, (wr.alloc o).cell? ⟨w.heap.size, 0, none⟩ = _ := fun o => cell_below (hBw o) q0
              have q1' : ∀ o, (wr.alloc o).cell? ⟨w.heap.size, 1, none⟩ = _ := fun o => cell_below (hBw o) q1
              have q2' : ∀ o, (wr.alloc o).cell? ⟨w.heap.size, 2, none⟩ = _ := fun o => cell_below (hBw o) q2
              have q3' : ∀ o, (wr.alloc o).cell? ⟨w.heap.size, 3, none⟩ = _ := fun o => cell_below (hBw o) q3
              have q4' : ∀ o, (wr.alloc o).cell? ⟨w.heap.size, 4, none⟩ = _ := fun o => cell_below (hBw o) q4
              clear q0 q1 q2 q3 q4
              cases hga : gAc S y nk with
              | none =>
                have HN : Hid (shape x = some (k + 1)) := show shape x = _ from by rw [HG.out, HD.out, actsGo_cons, hga]
                exact (shape_no H0 HN).elim
              | some nk' =>
                rw [hga] at hGA
                have HN : Hid (shape x = actsGo S (x.acts.drop (k + 1)) nk' (k + 1 + 1)) := show shape x = _ from by rw [HG.out, HD.out, actsGo_cons, hga]
                go_wp2_with (go_at_call 97; refine (hGA.out _ (hBa _) (cell_below (hBw _) hp1) (by rw [(bcell (hBw _)).2 _ _ hpl1]; exact hf1) (by simp; omega)).mono ?_; rintro e w3 ⟨rfl, hb3, hn3, hf3⟩)
                obtain ⟨hn60, hp3⟩ := hn3 nk' rfl
                have hs3 := hb3.size
                go_roundw
                case rel => exact ⟨k + 1, nk', by omega, by go_num, hn60, HN.out, hp3, hf3, by simp at hs3; omega, (HBX.out.below (hBw _)).belowB hb3 (by omega), (hBa _).trans (hb3.mono (by omega))⟩
                case measure => simp [intOf]; omega
            · have e0 : x.acts.drop k = [] := List.drop_eq_nil_of_le (by omega)
              have HE : Hid (shape x = if nk = S.length then none else some (k + 1)) := show shape x = _ from by rw [HG.out, e0]; rfl
              by_cases hfin : nk = x.exprs.length
              · have hne : ((nk : Int) != (x.exprs.length : Int)) = false := by simp; omega
                go_wp2
                go_ret
                exact ⟨rfl, hb⟩
              · have HN : Hid (shape x = some (k + 1)) := show shape x = _ from by rw [HE.out, if_neg (by have := HFL.out; omega)]
                exact (shape_no H0 HN).elim
end Go.Proofs.YtgkoiojelckblaaGreatDoor

namespace Go.Proofs.YtgkoiojelckblaaGreatDoor
open Go.RowKit
attribute [local go_sem ↓] Go.wp_at_zero Go.wp_at_succ

set_option maxHeartbeats 3200000 in
theorem l2Scope_any (x : Ru) (a_pats : Option Addr) (c_pats : Nat) (a_exprs : Option Addr) (c_exprs : Nat) (a_acts : Option Addr) (c_acts : Nat) {q : Option Nat} (w : World) (h_pats : PtsAt q w a_pats x.pats) (h_exprs : ExsAt q w a_exprs x.exprs) (h_acts : AcsAt q w a_acts x.acts) (hle : x.le 1048576) (hsh : shape x = none) :
    Calls Tryz.prog 54 #[.agg #[.string x.name, .int .i64 x.sal, .slice a_pats x.pats.length c_pats, .slice a_exprs x.exprs.length c_exprs, .slice a_acts x.acts.length c_acts]] w fun e w' => e = .returned (.int .i64 (itemM (scope x))) ∧ Below w.heap.size w w' := by
  obtain ⟨hsn0, hsp, hse, hsa⟩ := hle
  obtain ⟨hp6, ha8, he60, hpt, hfull, hargs⟩ := shape_none hsh
  obtain ⟨SS, hSS⟩ : ∃ S, S = spansGo [] x.exprs := ⟨_, rfl⟩
  have hSp : Spans x.exprs SS := by rw [hSS]; exact (spansGo_spans (Spans.nil _) rfl).1
  have hAG : actsGo SS x.acts 0 1 = none := by rw [hSS]; exact shape_acts hsh
  rw [← hSS] at hfull
  have HSP := hideH hSp
  have HAG := hideH hAG
  have HFL := hideH hfull
  have HAR := hideH hargs
  have HPT := hideH hpt
  have HSE := hideH hse
  have HSA := hideH hsa
  have HSPP := hideH hsp
  clear hSS hSp hAG hfull hargs hpt hsh hse hsa hsp
  obtain ⟨HH⟩ : Nonempty (Hid (scope x = match patsGo x.pats [] 1 with | .inl i => some i | .inr known => actsV x known)) := ⟨scope_eq x⟩
  have B0 : ∀ o, Below w.heap.size w (w.alloc o) := fun o => (Below.refl _ _).alloc (Nat.le_refl _) _
  go_enter Tryz.func54, Tryz.ntmps54
  go_wp2
  go_loopw [3, 16] (fun kv i wr => ∃ (k : Nat) (known : List ByteArray) (a : Option Addr) (c : Nat), k ≤ x.pats.length ∧ i = .int .i64 k ∧ kv = .slice a known.length c ∧ patsGo x.pats [] 1 = patsGo (x.pats.drop k) known (k + 1) ∧ known.length ≤ 6 * k ∧ (a = none → known.length = 0) ∧ StrsAt none wr a known ∧ RuBox wr w.heap.size x a_pats c_pats a_exprs c_exprs a_acts c_acts ∧ Below w.heap.size w wr) (fun _ i _ => x.pats.length - (intOf i).toNat)
  case atStart => exact ⟨0, [], none, 0, by omega, rfl, rfl, rfl, by simp, fun _ => rfl, RowsAt.nil, RuBox.made _ _ _ _ _ _ _ _ _, B0 _⟩
  case round =>
    obtain ⟨k, known, a, c, hk, rfl, rfl, hG, hkn, hnil, hst, hbox, hb⟩ := hrel
    have HG := hideH hG
    have HBX := hideH hbox
    have HST := hideH hst
    have HNIL := hideH hnil
    clear hG hst hnil
    have hwl : w.heap.size < wr.heap.size := cell_lt hbox.1
    by_cases hkl : k < x.pats.length
    · obtain ⟨p, hpk⟩ : ∃ p, x.pats[k]? = some p := ⟨x.pats[k], by simp [hkl]⟩
      obtain ⟨b, o, a_terms, c_terms, rfl, hq, c0, c1, c2, h_terms⟩ := (h_pats.below hb).get hpk
      have hpp := HSPP.out.2 p (List.mem_of_getElem? hpk)
      have hp6' := HPT.out p (List.mem_of_getElem? hpk)
      have HD : Hid (x.pats.drop k = p :: x.pats.drop (k + 1)) := drop_cons hpk
      have HTM := hideH h_terms
      obtain ⟨wo, rfl⟩ : ∃ u, u = wr := ⟨wr, rfl⟩
      have B1 : ∀ o, Below wo.heap.size wo (wo.alloc o) := fun o => (Below.refl _ _).alloc (Nat.le_refl _) _
      clear hbox h_terms
      go_wp2_with (at_builtin; refine wpList_append_any (by rfl) (.tmp 21) (.tmp 22) 102 (by rfl) (wo.heap.size + 1) 9 _ 1 16 Tryz.underlying102 infoStr (by rfl) (by omega) _ 0 [] (by rfl) (World.ownsRow_nil _ _ _ _) a known.length c (by rfl) (known.map Value.string) (by simp) HNIL.out (strs_news (HST.out.below (B1 _))) (strs_one known) (by unfold maxLen; omega) (by omega) (by simp) ?_; intro a2 c2' w2 ho2 hg2 hl2; have hW2 : Below (wo.heap.size + 1) (wo.alloc (.cells #[.bool p.neg, .string p.cls, .slice a_terms p.terms.length c_terms] 45)) w2 := ((Below.refl _ _).grown hg2.out (by simp) (fun j hj => by cases hj)); have d2 : w2.cell? ⟨wo.heap.size, 2, none⟩ = some (.slice a_terms p.terms.length c_terms) := (hW2.cell (p := ⟨wo.heap.size, 2, none⟩) (by simp)).trans (by simp [go_sem]))
      have ho2' : w2.ownsRow (wo.heap.size + 1) 9 1 (.slice a2 known.length c2') known.length (known.map Value.string) := by
        have := ho2.out
        simpa using this
      clear ho2 hg2 hl2 d2 c0 c1 c2 hq
      go_loopw [6, 27] (fun hv i wr' => ∃ (j : Nat) (here : List ByteArray) (a' : Option Addr) (c' : Nat), j ≤ p.terms.length ∧ i = .int .i64 j ∧ hv = .slice a' here.length c' ∧ termsGo p.terms known = termsGo (p.terms.drop j) here ∧ here.length ≤ 6 * k + j ∧ wr'.ownsRow (wo.heap.size + 1) 9 1 (.slice a' here.length c') here.length (here.map Value.string) ∧ Below (wo.heap.size + 1) (wo.alloc (.cells #[.bool p.neg, .string p.cls, .slice a_terms p.terms.length c_terms] 45)) wr') (fun _ i _ => p.terms.length - (intOf i).toNat)
      case atStart => exact ⟨0, known, a2, c2', by omega, rfl, by simp, rfl, by omega, ho2', hW2⟩
      case round =>
        clear ho2' hW2
        obtain ⟨j, here, a', c', hj, rfl, rfl, hT, hhl, hown, hbW⟩ := hrel
        have HT := hideH hT
        have HO := hideH hown
        clear hT hown
        have hBo : Below wo.heap.size wo wr := (B1 _).trans (hbW.mono (by omega))
        have hBw : Below w.heap.size w wr := hb.trans (hBo.mono hb.size)
        have hsz := hbW.size
        have A1 : ∀ o, Below (wo.heap.size + 1) (wo.alloc (.cells #[.bool p.neg, .string p.cls, .slice a_terms p.terms.length c_terms] 45)) (wr.alloc o) := fun o => hbW.alloc (by simp at hsz; omega) _
        by_cases hjl : j < p.terms.length
        · obtain ⟨t, htk⟩ : ∃ t, p.terms[j]? = some t := ⟨p.terms[j], by simp [hjl]⟩
          obtain ⟨b', o', ea, hq, c0, c1, c2, c3, c4, c5⟩ := (HTM.out.below hBo).get htk
          subst ea
          have HDT : Hid (p.terms.drop j = t :: p.terms.drop (j + 1)) := drop_cons htk
          have AW : ∀ o, Below w.heap.size w (wr.alloc o) := fun o => hBw.alloc hBw.size _
          have R1 : ∀ o, Below wr.heap.size wr (wr.alloc o) := fun o => (Below.refl _ _).alloc (Nat.le_refl _) _
          by_cases k2 : t.kind = 2
          · have HN : Hid (termsGo p.terms known = termsGo (p.terms.drop (j + 1)) (here ++ [t.var])) := show termsGo p.terms known = _ from by rw [HT.out, HDT.out, termsGo_cons]; simp [asks, k2]
            rw [k2] at c0
            go_wp2_with (at_builtin; refine wpList_append_any (by rfl) (.tmp 51) (.tmp 54) 102 (by rfl) (wo.heap.size + 1) 9 _ 1 16 Tryz.underlying102 infoStr (by rfl) (by omega) _ here.length _ (by rfl) ((HO.out.alloc _).alloc _) (some ⟨wr.heap.size + 1, 0, none⟩) 1 1 (by rfl) [.string t.var] (by rfl) (fun e => by cases e) (news_alloc2 _ _ _ _ (by simp)) (by simp [Value.oneCell']) (by unfold maxLen; omega) (by omega) (by simp at hsz ⊢; omega) ?_; intro a3 c3' w3 ho3 hg3 hl3)
            have hW3 := (((A1 _).alloc (by simp at hsz; simp; omega) _).grown hg3.out (by simp at hsz; simp; omega) (fun g hg => (HO.out.lt g hg).1))
            have ho3' : w3.ownsRow (wo.heap.size + 1) 9 1 (.slice a3 (here ++ [t.var]).length c3') (here ++ [t.var]).length ((here ++ [t.var]).map Value.string) := by
              have := ho3.out
              simpa using this
            go_roundw
            case rel => exact ⟨j + 1, here ++ [t.var], a3, c3', by omega, by go_num, by simp, HN.out, by simp; omega, ho3', hW3⟩
            case measure => simp [intOf]; omega
          · by_cases k3 : t.kind = 3 ∧ t.var.toList.isEmpty = false
            · obtain ⟨k3, v0⟩ := k3
              rw [k3] at c0
              have hI := hideH (fun w' h => l2Is_any t.var a' c' here w' (q := none) h (by omega))
              cases hm : memB t.var here
              all_goals
                rw [hm] at hI
                go_wp2_with (go_at_call 98; refine (hI.out _ ((StrsAt.owns HO.out).below (R1 _))).mono ?_; rintro e' w1 ⟨rfl, rfl⟩)
              · have HX : Hid (scope x = some (k + 1)) := show scope x = _ from by
                  have hz : termsGo p.terms known = none := by
                    rw [HT.out, HDT.out, termsGo_cons]
                    simp [asks, k3, isE, hm]
                    intro h
                    simp [h] at v0
                  rw [HH.out, HG.out, HD.out, patsGo_cons, hz]
                go_ret
                exact ⟨ret_int (by rw [HX.out]; simp [itemM]), AW _⟩
              · have HN : Hid (termsGo p.terms known = termsGo (p.terms.drop (j + 1)) here) := show termsGo p.terms known = _ from by rw [HT.out, HDT.out, termsGo_cons]; simp [k3, hm]
                go_roundw
                case rel => exact ⟨j + 1, here, a', c', by omega, by go_num, rfl, HN.out, by omega, HO.out.alloc _, A1 _⟩
                case measure => simp [intOf]; omega
            · have HN : Hid (termsGo p.terms known = termsGo (p.terms.drop (j + 1)) here) := show termsGo p.terms known = _ from by
                have ha : asks t = false := by
                  unfold asks isE
                  by_cases h3 : t.kind = 3
                  · have : t.var.toList.isEmpty = true := by cases h : t.var.toList.isEmpty <;> simp_all
                    simp [this]
                  · simp [h3]
                rw [HT.out, HDT.out, termsGo_cons, ha]
                simp [k2]
              by_cases h3 : t.kind = 3
              · have hve : t.var.toList.isEmpty = true := by cases h : t.var.toList.isEmpty <;> simp_all
                clear k3
                rw [h3] at c0
                go_wp2
                go_roundw
                case rel => exact ⟨j + 1, here, a', c', by omega, by go_num, rfl, HN.out, by omega, HO.out.alloc _, A1 _⟩
                case measure => simp [intOf]; omega
              · clear k3
                go_wp2
                go_roundw
                case rel => exact ⟨j + 1, here, a', c', by omega, by go_num, rfl, HN.out, by omega, HO.out.alloc _, A1 _⟩
                case measure => simp [intOf]; omega
        · have HN : Hid (termsGo p.terms known = some here) := show termsGo p.terms known = _ from by
            rw [HT.out, List.drop_eq_nil_of_le (by omega)]
            rfl
          have d0 : wr.cell? ⟨wo.heap.size, 0, none⟩ = some (.bool p.neg) := (hbW.cell (p := ⟨wo.heap.size, 0, none⟩) (by simp)).trans (by simp [go_sem])
          have hbx : RuBox wr w.heap.size x (some ⟨b, o, none⟩) c_pats a_exprs c_exprs a_acts c_acts := (HBX.out.below (B1 _)).belowB hbW (by omega)
          cases hn' : p.neg
          all_goals
            rw [hn'] at d0
            have HM : Hid (patsGo x.pats [] 1 = patsGo (x.pats.drop (k + 1)) (if p.neg then known else here) (k + 1 + 1)) := show patsGo x.pats [] 1 = _ from by rw [HG.out, HD.out, patsGo_cons, HN.out]
            rw [hn'] at HM
            go_wp2
          · go_roundw
            case rel => exact ⟨k + 1, here, a', c', by omega, by go_num, rfl, HM.out, by omega, owns_none HO.out, StrsAt.owns HO.out, hbx, hBw⟩
            case measure => simp [intOf]; omega
          · go_roundw
            case rel => exact ⟨k + 1, known, a, c, by omega, by go_num, rfl, HM.out, by omega, HNIL.out, HST.out.below hBo, hbx, hBw⟩
            case measure => simp [intOf]; omega
    · have hkn36 : known.length ≤ 36 := by omega
      have HN : Hid (scope x = actsV x known) := show scope x = _ from by rw [HH.out, HG.out, List.drop_eq_nil_of_le (by omega)]; rfl
      obtain ⟨q0, q1, q2, q3, q4⟩ := hbox
      go_wp2
      clear q0 q1 q2 q3 q4
      go_loopw [65] (fun i wr' => ∃ (k nx : Nat), k ≤ x.acts.length ∧ i = .int .i64 k ∧ actsV x known = firstBad (actVar x.exprs known) (x.acts.drop k) (x.pats.length + 1 + k) ∧ actsGo SS (x.acts.drop k) nx (k + 1) = none ∧ (x.exprs.take nx).all (knownE known) = true ∧ StrsAt none wr' a known ∧ RuBox wr' w.heap.size x a_pats c_pats a_exprs c_exprs a_acts c_acts ∧ Below w.heap.size w wr') (fun i _ => x.acts.length - (intOf i).toNat)
      case atStart => exact ⟨0, 0, by omega, rfl, rfl, HAG.out, by simp, HST.out, HBX.out, hb⟩
      case round =>
        clear HG HBX HST hb hk hwl HAG
        obtain ⟨k, nx, hk, rfl, hG, hAG, hall, hst, hbox, hb⟩ := hrel
        have HG := hideH hG
        have HAG := hideH hAG
        have HALL := hideH hall
        have HST := hideH hst
        have HBX := hideH hbox
        have hwl : w.heap.size < wr.heap.size := cell_lt hbox.1
        clear hG hAG hall hst
        by_cases hkl2 : k < x.acts.length
        · obtain ⟨y, hyk⟩ : ∃ y, x.acts[k]? = some y := ⟨x.acts[k], by simp [hkl2]⟩
          obtain ⟨b, o, a_args, c_args, rfl, hq, c0, c1, c2, c3, h_args⟩ := (h_acts.below hb).get hyk
          have hyl := (HSA.out.2 y (List.mem_of_getElem? hyk)).2
          have HD : Hid (x.acts.drop k = y :: x.acts.drop (k + 1)) := drop_cons hyk
          have R1 : ∀ o, Below wr.heap.size wr (wr.alloc o) := fun o => (Below.refl _ _).alloc (Nat.le_refl _) _
          have AW : ∀ o, Below w.heap.size w (wr.alloc o) := fun o => hb.alloc hb.size _
          obtain ⟨nx', hga, hAG'⟩ : ∃ n, gAc SS y nx = some n ∧ actsGo SS (x.acts.drop (k + 1)) n (k + 1 + 1) = none := by
            have h := HAG.out
            rw [HD.out, actsGo_cons] at h
            cases hg : gAc SS y nx with
            | none => rw [hg] at h; cases h
            | some n => rw [hg] at h; exact ⟨n, rfl, h⟩
          have hag := gAc_args hga
          have HAG2 := hideH hAG'
          clear hAG' hga
          by_cases hne : y.args = []
          · have hnx : nx' = nx := by
              rw [hne] at hag
              have : some nx = some nx' := hag
              injection this with this
              exact this.symm
            subst hnx
            have HX : Hid (actsV x known = firstBad (actVar x.exprs known) (x.acts.drop (k + 1)) (x.pats.length + 1 + (k + 1))) := show actsV x known = _ from by
              rw [HG.out, HD.out, firstBad_cons, show actVar x.exprs known y = true by simp [actVar, hne]]
              rfl
            have hl0 : y.args.length = 0 := by simp [hne]
            rw [hl0] at c3
            clear hne hag hl0 hbox
            go_wp2
            go_roundw
            case rel => exact ⟨k + 1, nx', by omega, by go_num, HX.out, HAG2.out, HALL.out, HST.out.below (R1 _), HBX.out.below (R1 _), AW _⟩
            case measure => simp [intOf]; omega
          · obtain ⟨xl, hxl, hnx', hxs⟩ := argsGo_last hne hag
            have hle2 := argsGo_le HSP.out hag
            obtain ⟨ln, hln⟩ : ∃ ln, y.args.length = ln + 1 := ⟨y.args.length - 1, by have := List.length_pos_iff.2 hne; omega⟩
            have hlast : y.args[ln]? = some (xl : Int) := by
              rw [List.getLast?_eq_getElem?, hln, Nat.add_sub_cancel] at hxl
              exact hxl
            obtain ⟨x0, s0, hx0, hs0, hs01⟩ : ∃ (x0 : Nat) (s0 : Sp), y.args[0]? = some (x0 : Int) ∧ SS[x0]? = some s0 ∧ s0.1 = nx := by
              cases hy : y.args with
              | nil => exact absurd hy hne
              | cons v r =>
                rw [hy] at hag
                obtain ⟨x0, s0, rfl, h1, h2, _⟩ := argsGo_one hag
                exact ⟨x0, s0, by simp, h1, h2⟩
            have HAV : Hid (actVar x.exprs known y = (x.exprs.take (xl + 1)).all (knownE known)) := actVar_last hxl
            obtain ⟨ba, oa, ea, _, g0⟩ := h_args.get hx0
            subst ea
            obtain ⟨ba2, oa2, ea2, _, gl⟩ := h_args.get hlast
            cases ea2
            have hfl := HFL.out
            rw [hln] at c3
            have z0 : (0 : Int) < (ln : Int) + 1 := by omega
            have z1 : ¬ (ln : Int) + 1 = 0 := by omega
            have z2 : (0 : Int) < ((ln + 1 : Nat) : Int) := by omega
            have z3 : (((ln + 1 : Nat) : Int) == 0) = false := by simp; omega
            have z4 : (((ln : Int) + 1) == 0) = false := by simp; omega
            have g0' := fun o => cell_below (R1 o) g0
            have q3' := fun o => cell_below (R1 o) hbox.2.2.2.1
            have HEX := hideH (fun o => (h_exprs.below (AW o)))
            clear hbox hne hag hxl hq
            simp only [Nat.add_zero] at g0 g0'
            go_wp2
            have HHA := hideH (h_args)
            have HGL := hideH gl
            clear z1 z3 z4 gl hx0 hlast g0 c0 c1 c2 c3 h_args
            have hz := fun n => l2First_any a_exprs c_exprs x.exprs SS x0 s0 ((wr.alloc (.cells #[.int .i64 y.kind, .int .i64 y.k, .string y.cls, .slice (some ⟨ba, oa, none⟩) (ln + 1) c_args] 53)).drewN n) ((HEX.out _).below (below_drewN2 (Below.refl _ _))) HSP.out hs0
            have HZ := hideH hz
            clear hz
            go_quiet (first | (go_at_call 99; refine Calls.quiet_of_same (HZ.out _)))
            rw [hs01]
            clear g0' q3' HEX hs01 hs0 HZ z0 z2
            go_wp2
            obtain ⟨wa, rfl⟩ : ∃ u, u = wr := ⟨wr, rfl⟩
            go_loopw [11] (fun kv wr2 => ∃ (j : Nat), nx ≤ j ∧ j ≤ xl + 1 ∧ kv = .int .i64 (j : Int) ∧ (x.exprs.take j).all (knownE known) = true ∧ wr2.cell? ⟨wa.heap.size, 3, none⟩ = some (.slice (some ⟨ba, oa, none⟩) (ln + 1) c_args) ∧ Below wa.heap.size wa wr2) (fun kv _ => xl + 1 - (intOf kv).toNat)
            case atStart => exact ⟨nx, Nat.le_refl _, by omega, rfl, HALL.out, by simp [go_sem], below_drewN2 (R1 _)⟩
            case round =>
              obtain ⟨j, hj0, hj1, rfl, hall, hbx3, hbW⟩ := hrel
              have HAJ := hideH hall
              clear hall
              have hBw : Below w.heap.size w wr := hb.trans (hbW.mono hb.size)
              have hrb := HBX.out.below hbW
              have hgl := cell_below hbW HGL.out
              have hw1 : IntKind.i64.wrap ((ln : Int) + 1 - 1) = (ln : Int) := by rw [show (ln : Int) + 1 - 1 = (ln : Int) by omega, IntKind.wrap_i64]; omega
              have hw2 : IntKind.i64.wrap (((ln + 1 : Nat) : Int) - 1) = (ln : Int) := by rw [show ((ln + 1 : Nat) : Int) - 1 = (ln : Int) by omega, IntKind.wrap_i64]; omega
              have hw3 : IntKind.i64.wrap (ln : Int) = (ln : Int) := by rw [IntKind.wrap_i64]; omega
              have y0 : (0 : Int) ≤ (ln : Int) := by omega
              have y1 : (ln : Int) < ((ln + 1 : Nat) : Int) := by omega
              have y2 : (ln : Int) < (ln : Int) + 1 := by omega
              by_cases hjl : j ≤ xl
              · obtain ⟨e, hek⟩ : ∃ e, x.exprs[j]? = some e := ⟨x.exprs[j]'(by omega), by simp⟩
                obtain ⟨be, oe, ee, hqe, e0, e1, e2, e3, e4, e5, e6, e7⟩ := (h_exprs.below hBw).get hek
                subst ee
                obtain ⟨r0, r1, r2, r3, r4⟩ := hrb
                have R2 : ∀ o, Below wr.heap.size wr (wr.alloc o) := fun o => (Below.refl _ _).alloc (Nat.le_refl _) _
                have v0 : (0 : Int) ≤ (j : Int) := by omega
                have v1 : (j : Int) < (x.exprs.length : Int) := by omega
                have v2 : (j : Int) ≤ (xl : Int) := by omega
                have hsz := hbW.size
                have r2' := fun o => cell_below (R2 o) r2
                clear r0 r1 r2 r4
                by_cases ek : e.kind = 1
                · rw [ek] at e0
                  have hI := hideH (fun w' h => l2Is_any e.var a c known w' (q := none) h (by omega))
                  cases hm : memB e.var known
                  all_goals
                    rw [hm] at hI
                    go_wp2_with (go_at_call 98; refine (hI.out _ ((HST.out.below hbW).below (R2 _))).mono ?_; rintro e' w1 ⟨rfl, rfl⟩)
                  · have HX : Hid (scope x = some (x.pats.length + 1 + k)) := show scope x = _ from by
                      rw [HN.out, HG.out, HD.out, firstBad_cons, HAV.out, all_take_false hek (by omega) (show knownE known e = false by simp [knownE, ek, hm])]
                      rfl
                    go_ret
                    exact ⟨ret_int (by rw [HX.out]; simp [itemM]; omega), hBw.alloc hBw.size _⟩
                  · have HJ : Hid ((x.exprs.take (j + 1)).all (knownE known) = true) := show (x.exprs.take (j + 1)).all (knownE known) = true from by rw [all_takeS hek, HAJ.out]; simp [knownE, hm]
                    go_roundw
                    case rel => exact ⟨j + 1, by omega, by omega, by go_num, HJ.out, cell_below (R2 _) hbx3, hbW.alloc hsz _⟩
                    case measure => simp [intOf]; omega
                · have HJ : Hid ((x.exprs.take (j + 1)).all (knownE known) = true) := show (x.exprs.take (j + 1)).all (knownE known) = true from by rw [all_takeS hek, HAJ.out]; simp [knownE, ek]
                  go_wp2
                  go_roundw
                  case rel => exact ⟨j + 1, by omega, by omega, by go_num, HJ.out, cell_below (R2 _) hbx3, hbW.alloc hsz _⟩
                  case measure => simp [intOf]; omega
              · have hjx : j = xl + 1 := by omega
                have v2 : ¬ (j : Int) ≤ (xl : Int) := by omega
                have HX : Hid (actsV x known = firstBad (actVar x.exprs known) (x.acts.drop (k + 1)) (x.pats.length + 1 + (k + 1))) := show actsV x known = _ from by
                  rw [HG.out, HD.out, firstBad_cons, HAV.out, ← hjx, HAJ.out]
                  rfl
                clear hrb
                go_wp2
                go_roundw
                case rel => exact ⟨k + 1, nx', by omega, by go_num, HX.out, HAG2.out, by rw [hnx', ← hjx]; exact HAJ.out, HST.out.below hbW, HBX.out.below hbW, hBw⟩
                case measure => simp [intOf]; omega
        · go_wp2
          go_ret
          exact ⟨ret_int (by rw [HN.out, HG.out, List.drop_eq_nil_of_le (by omega)]; rfl), hb⟩
end Go.Proofs.YtgkoiojelckblaaGreatDoor

namespace Go.Proofs.YtgkoiojelckblaaGreatDoor
open Go.RowKit
attribute [local go_sem ↓] Go.wp_at_zero Go.wp_at_succ

theorem chkGo_cons (pre : List Ru) (r : Ru) (s : List Ru) (k : Nat) : chkGo pre (r :: s) k = if (chk1 pre r).1 = 0 then chkGo (pre ++ [r]) s (k + 1) else ((chk1 pre r).1, (k : Int), (chk1 pre r).2) := rfl
/-- Three numbers, as a Check. -/
def ckV (p : Int × Int × Int) : Value := .agg #[.int .i64 p.1, .int .i64 p.2.1, .int .i64 p.2.2]

end Go.Proofs.YtgkoiojelckblaaGreatDoor

namespace Go.Proofs.YtgkoiojelckblaaGreatDoor
open Go.RowKit
attribute [local go_sem ↓] Go.wp_at_zero Go.wp_at_succ

theorem hidYc {p : Prop} (h : p) : Hid p := h
/-- A Check that nothing was written into yet. -/
def RzY (b : Nat) (w : World) : Prop := (∀ j, j < 3 → w.cell? ⟨b, j, none⟩ = some (.int .i64 0)) ∧ (∀ j, w.frozen? ⟨b, j, none⟩ = false) ∧ b < w.heap.size
theorem RzY.below {b : Nat} {w w' : World} (h : RzY b w) (hb : Below w.heap.size w w') : RzY b w' :=
  ⟨fun j hj => cell_below hb (h.1 j hj), fun j => by rw [(bcell hb).2 _ _ h.2.2]; exact h.2.1 j, Nat.lt_of_lt_of_le h.2.2 hb.size⟩
theorem RzY.get {b : Nat} {w : World} (h : RzY b w) : w.cell? ⟨b, 0, none⟩ = some (.int .i64 0) ∧ w.cell? ⟨b, 1, none⟩ = some (.int .i64 0) ∧ w.cell? ⟨b, 2, none⟩ = some (.int .i64 0) ∧ w.frozen? ⟨b, 0, none⟩ = false ∧ w.frozen? ⟨b, 1, none⟩ = false ∧ w.frozen? ⟨b, 2, none⟩ = false :=
  ⟨h.1 0 (by omega), h.1 1 (by omega), h.1 2 (by omega), h.2.1 0, h.2.1 1, h.2.1 2⟩
theorem RzY.made (w : World) (t : TypeId) : RzY w.heap.size (w.alloc (.cells #[.int .i64 0, .int .i64 0, .int .i64 0] t)) :=
  ⟨fun j hj => by (match j, hj with | 0, _ => simp [go_sem] | 1, _ => simp [go_sem] | 2, _ => simp [go_sem]), fun j => by simp [go_sem], by simp⟩

theorem chk_no {rs : List Ru} {n i j : Int} (h0 : Hid ((chk rs).1 = 0)) (hx : Hid (chk rs = (n, i, j))) (hn : n ≠ 0) : False := by
  have h := h0.out
  rw [hx.out] at h
  exact hn h
set_option maxHeartbeats 3200000 in
set_option maxRecDepth 100000 in
theorem sCheckRules_yes (a : Option Addr) (c : Nat) (rs : List Ru) (q : Option Nat) (w : World) (hv : RusAt q w a rs) (hc : rs.length ≤ c) (hle : ListLe Ru.le 1048576 rs) (ho : ∀ x ∈ rs, OpsOk x.exprs) (H0 : Hid ((chk rs).1 = 0)) :
    Calls Tryz.prog 22 #[.slice a rs.length c] w fun e w' => e = .returned (ckV (0, 0, 0)) ∧ Below w.heap.size w w' := by
  obtain ⟨hl, hle⟩ := hle
  have B0 : ∀ o, Below w.heap.size w (w.alloc o) := fun o => (Below.refl _ _).alloc (Nat.le_refl _) _
  by_cases h16 : 16 < rs.length
  · have h16' : (16 : Int) < (rs.length : Int) := by omega
    have HC : Hid (chk rs = (1, 0, 0)) := show chk rs = _ from by unfold chk; rw [if_neg (by omega)]
    exact (chk_no H0 HC (by decide)).elim
  · have h16' : ¬ (16 : Int) < (rs.length : Int) := by omega
    have HC : Hid (chk rs = chkGo [] rs 0) := show chk rs = _ from by unfold chk; rw [if_pos (by omega)]
    have HLE := hideH hle
    have HOO := hideH ho
    clear hle ho
    go_enter Tryz.func22, Tryz.ntmps22
    go_wp2
    go_loopw [17] (fun i wr => ∃ (k : Nat), k ≤ rs.length ∧ i = .int .i64 k ∧ chk rs = chkGo (rs.take k) (rs.drop k) k ∧ RzY w.heap.size wr ∧ Below w.heap.size w wr) (fun i _ => rs.length - (intOf i).toNat)
    case atStart => exact ⟨0, by omega, rfl, by rw [HC.out]; rfl, RzY.made _ _, B0 _⟩
    case round =>
      obtain ⟨k, hk, rfl, hG, hrz, hb⟩ := hrel
      have HG := hideH hG
      have HRZ := hideH hrz
      clear hG
      by_cases hkl : k < rs.length
      · obtain ⟨x, hxk⟩ : ∃ x, rs[k]? = some x := ⟨rs[k], by simp [hkl]⟩
        have hv' := hv.below hb
        obtain ⟨b, o, a_pats, c_pats, a_exprs, c_exprs, a_acts, c_acts, rfl, hq, c0, c1, c2, c3, c4, h_pats, h_exprs, h_acts, hcap⟩ := hv'.get hxk
        have hxl := HLE.out x (List.mem_of_getElem? hxk)
        have hxo := HOO.out x (List.mem_of_getElem? hxk)
        have HD : Hid (rs.drop k = x :: rs.drop (k + 1)) := drop_cons hxk
        have HT : Hid (rs.take (k + 1) = rs.take k ++ [x]) := take_succ' rs k x hxk
        obtain ⟨wo, rfl⟩ : ∃ u, u = wr := ⟨wr, rfl⟩
        have B1 : ∀ o, Below wo.heap.size wo (wo.alloc o) := fun o => (Below.refl _ _).alloc (Nat.le_refl _) _
        have HP := hideH h_pats
        have HE := hideH h_exprs
        have HA := hideH h_acts
        have hSH := hideH (fun (hs : Hid (shape x = none)) w' (h0 : Below wo.heap.size wo w') => l2Shape_yes x a_pats c_pats a_exprs c_exprs a_acts c_acts (q := q) w' (h_pats.below h0) (h_exprs.below h0) (h_acts.below h0) hxl hxo hs)
        have hbx0 := RuBox.made wo 41 x a_pats c_pats a_exprs c_exprs a_acts c_acts
        have HBX0 := hideH hbx0
        clear h_pats h_exprs h_acts hv' hrz hbx0 hq hcap
        cases hshape : shape x with
        | some i =>
          have HX : Hid (chk rs = (1, (k : Int), (i : Int))) := show chk rs = _ from by
            have h1 : chk1 (rs.take k) x = (1, (i : Int)) := by unfold chk1; rw [hshape]
            rw [HG.out, HD.out, chkGo_cons, h1, if_neg (by simp)]
          exact (chk_no H0 HX (by decide)).elim
        | none =>
          have z0 : (0 : Int) ≤ (k : Int) := by omega
          have z1 : (k : Int) ≤ (c : Int) := by omega
          go_wp2_with (go_at_call 52; refine (hSH.out hshape _ (B1 _)).mono ?_; rintro e w1 ⟨rfl, hb1⟩)
          have hW1 : Below wo.heap.size wo w1 := (B1 _).trans (hb1.mono (by simp))
          have hbx1 := HBX0.out.below hb1
          have hrz1 := (HRZ.out.below (B1 _)).below hb1
          have hb1' := hb.trans (hW1.mono hb.size)
          clear hb1
          go_loopw [33] (fun i wr => ∃ (j : Nat), j ≤ k ∧ i = .int .i64 j ∧ (rs.take k).any (fun o => decide (o.name = x.name)) = ((rs.take k).drop j).any (fun o => decide (o.name = x.name)) ∧ RuBox wr wo.heap.size x a_pats c_pats a_exprs c_exprs a_acts c_acts ∧ RzY w.heap.size wr ∧ Below wo.heap.size wo wr) (fun i _ => k - (intOf i).toNat)
          case atStart => exact ⟨0, by omega, rfl, rfl, hbx1, hrz1, hW1⟩
          case round =>
            clear hW1 hbx1 hrz1 hb1' c0 c1 c2 c3 c4
            obtain ⟨j, hj, rfl, hN, hbox, hrz, hbo⟩ := hrel
            have HN := hideH hN
            have HBX := hideH hbox
            have HRZ2 := hideH hrz
            clear hN
            have hbw : Below w.heap.size w wr := hb.trans (hbo.mono hb.size)
            have hlen : (rs.take k).length = k := by simp; omega
            by_cases hjl : j < k
            · obtain ⟨y, hyk⟩ : ∃ y, (rs.take k)[j]? = some y := ⟨(rs.take k)[j]'(by omega), List.getElem?_eq_getElem _⟩
              have hpre : RusAt q wr (some ⟨b, o, none⟩) (rs.take k) := RowsAt.take (hv.below hbw) k
              obtain ⟨b2, o2, a1, k1, a2, k2, a3, k3, ee, hq, c0, c1, c2, c3, c4, _, _, _⟩ := hpre.get hyk
              cases ee
              have HDJ : Hid ((rs.take k).drop j = y :: (rs.take k).drop (j + 1)) := drop_cons hyk
              have R1 : ∀ o, Below wr.heap.size wr (wr.alloc o) := fun o => (Below.refl _ _).alloc (Nat.le_refl _) _
              have q0' : ∀ o, (wr.alloc o).cell? ⟨wo.heap.size, 0, none⟩ = some (.string x.name) := fun o => cell_below (R1 o) hbox.1
              have hws : wo.heap.size < wr.heap.size := cell_lt hbox.1
              have v1 : (j : Int) < (k : Int) := by omega
              have v0 : (0 : Int) ≤ (j : Int) := by omega
              clear hpre hbox hlen
              cases e1 : (y.name.toList == x.name.toList)
              · have HX : Hid ((rs.take k).any (fun o => decide (o.name = x.name)) = ((rs.take k).drop (j + 1)).any (fun o => decide (o.name = x.name))) := show _ = _ from by
                  rw [bytes_beq] at e1
                  rw [HN.out, HDJ.out, List.any_cons, e1]
                  rfl
                clear hrz
                go_wp2
                go_roundw
                case rel => exact ⟨j + 1, by omega, by go_num, HX.out, HBX.out.below (R1 _), HRZ2.out.below (R1 _), hbo.alloc hbo.size _⟩
                case measure => simp [intOf]; omega
              · have HX : Hid (chk rs = (2, (k : Int), 0)) := show chk rs = _ from by
                  have h1 : chk1 (rs.take k) x = (2, 0) := by
                    rw [bytes_beq] at e1
                    unfold chk1
                    rw [hshape]
                    simp only
                    rw [HN.out, HDJ.out, List.any_cons, e1]
                    rfl
                  rw [HG.out, HD.out, chkGo_cons, h1, if_neg (by simp)]
                exact (chk_no H0 HX (by decide)).elim
            · have HANY : Hid ((rs.take k).any (fun o => decide (o.name = x.name)) = false) := show _ = _ from by rw [HN.out, List.drop_eq_nil_of_le (by omega)]; rfl
              have hpos : positives x.pats ≤ x.pats.length := List.countP_le_length
              obtain ⟨hp6, ha8, he60, hpt, hfull, hargs⟩ := shape_none hshape
              have hPO := hidYc (fun w' (h0 : Below wo.heap.size wo w') => l2Positive_any x a_pats c_pats a_exprs c_exprs a_acts c_acts (q := q) w' (HP.out.below h0) (by omega))
              have hSC := hidYc (fun w' (h0 : Below wo.heap.size wo w') => l2Scope_any x a_pats c_pats a_exprs c_exprs a_acts c_acts (q := q) w' (HP.out.below h0) (HE.out.below h0) (HA.out.below h0) hxl hshape)
              have hj' : ¬ (j : Int) < (k : Int) := by omega
              obtain ⟨q0, q1, q2, q3, q4⟩ := hbox
              clear hrz hpt hfull hargs hSH HBX0 hlen
              by_cases hr : 1 ≤ positives x.pats ∧ positives x.pats ≤ 3
              · have HC1 : Hid (chk1 (rs.take k) x = match scope x with | some i => (4, (i : Int)) | none => match refs x with | some i => (5, (i : Int)) | none => (0, 0)) := show chk1 (rs.take k) x = _ from by
                  unfold chk1
                  rw [hshape]
                  simp only
                  rw [HANY.out, if_neg (by decide), if_pos hr]
                  cases scope x with
                  | some i => rfl
                  | none => cases refs x <;> rfl
                have r0 : ¬ (positives x.pats : Int) < 1 := by omega
                have r1 : ¬ (3 : Int) < (positives x.pats : Int) := by omega
                cases hsc : scope x with
                | some i =>
                  rw [hsc] at hSC HC1
                  simp only [itemM] at hSC
                  have hi0 : (0 : Int) ≤ (i : Int) := by omega
                  have HX : Hid (chk rs = (4, (k : Int), (i : Int))) := show chk rs = _ from by rw [HG.out, HD.out, chkGo_cons, HC1.out, if_neg (by simp)]
                  exact (chk_no H0 HX (by decide)).elim
                | none =>
                  rw [hsc] at hSC HC1
                  simp only [itemM] at hSC
                  simp only at HC1
                  go_wp2_with (first | (go_at_call 53; refine (hPO.out _ hbo).mono ?_; rintro e w2 ⟨rfl, hb2⟩; obtain ⟨s0, s1, s2, s3, s4⟩ := HBX.out.below hb2; have hb2' := hbo.trans (hb2.mono hbo.size); obtain ⟨y0, y1, y2, f0, f1, f2⟩ := (HRZ2.out.below hb2).get) | (go_at_call 54; refine (hSC.out _ hb2').mono ?_; rintro e w3 ⟨rfl, hb3⟩; obtain ⟨t0, t1, t2, t3, t4⟩ := (HBX.out.below hb2).below hb3; have hb3' := hb2'.trans (hb3.mono hb2'.size); obtain ⟨v0, v1, v2, g0, g1, g2⟩ := ((HRZ2.out.below hb2).below hb3).get) | fail)
                  have hbx3 := (HBX.out.below hb2).below hb3
                  have hrz3 := (HRZ2.out.below hb2).below hb3
                  clear q0 q1 q2 q3 q4 s0 s1 s2 s3 s4 t0 t1 t2 t3 t4 y0 y1 y2 f0 f1 f2 v0 v1 v2 g0 g1 g2 hb2 hb3 hb2' hPO hSC r0 r1 hbw hbo
                  go_loopw [65] (fun i wr' => ∃ (m : Nat), m ≤ x.acts.length ∧ i = .int .i64 m ∧ refs x = firstBad (refOk (positives x.pats)) (x.acts.drop m) (x.pats.length + 1 + m) ∧ RuBox wr' wo.heap.size x a_pats c_pats a_exprs c_exprs a_acts c_acts ∧ RzY w.heap.size wr' ∧ Below wo.heap.size wo wr') (fun i _ => x.acts.length - (intOf i).toNat)
                  case atStart => exact ⟨0, by omega, rfl, rfl, hbx3, hrz3, hb3'⟩
                  case round =>
                    clear hbx3 hrz3 hb3'
                    obtain ⟨m, hm, rfl, hM, hbox3, hrz3, hbo3⟩ := hrel
                    have HM := hidYc hM
                    have HBX3 := hidYc hbox3
                    have HRZ3 := hidYc hrz3
                    clear hM hrz3
                    have hbw3 : Below w.heap.size w wr := hb.trans (hbo3.mono hb.size)
                    by_cases hml : m < x.acts.length
                    · obtain ⟨y, hyk⟩ : ∃ y, x.acts[m]? = some y := ⟨x.acts[m], by simp [hml]⟩
                      obtain ⟨b4, o4, a_args, c_args, ee, hq, c0, c1, c2, c3, h_args⟩ := (HA.out.below hbo3).get hyk
                      subst ee
                      have HDM : Hid (x.acts.drop m = y :: x.acts.drop (m + 1)) := drop_cons hyk
                      have R1 : ∀ o, Below wr.heap.size wr (wr.alloc o) := fun o => (Below.refl _ _).alloc (Nat.le_refl _) _
                      have q2' := fun o => cell_below (R1 o) hbox3.2.2.1
                      clear hbox3
                      by_cases hkd : y.kind = 2 ∨ y.kind = 3
                      · rcases hkd with hkd | hkd
                        all_goals rw [hkd] at c0
                        · by_cases k1 : y.k < 1
                          · have HX : Hid (chk rs = (5, (k : Int), ((x.pats.length + 1 + m : Nat) : Int))) := show chk rs = _ from by
                              have h1 : refs x = some (x.pats.length + 1 + m) := by rw [HM.out, HDM.out, firstBad_cons, show refOk (positives x.pats) y = false by simp [refOk, hkd]; omega]; rfl
                              rw [HG.out, HD.out, chkGo_cons, HC1.out, h1, if_neg (by simp)]
                            exact (chk_no H0 HX (by decide)).elim
                          · by_cases k2 : (positives x.pats : Int) < y.k
                            · have HX : Hid (chk rs = (5, (k : Int), ((x.pats.length + 1 + m : Nat) : Int))) := show chk rs = _ from by
                                have h1 : refs x = some (x.pats.length + 1 + m) := by rw [HM.out, HDM.out, firstBad_cons, show refOk (positives x.pats) y = false by simp [refOk, hkd]; omega]; rfl
                                rw [HG.out, HD.out, chkGo_cons, HC1.out, h1, if_neg (by simp)]
                              exact (chk_no H0 HX (by decide)).elim
                            · have HX : Hid (refs x = firstBad (refOk (positives x.pats)) (x.acts.drop (m + 1)) (x.pats.length + 1 + (m + 1))) := show refs x = _ from by rw [HM.out, HDM.out, firstBad_cons, show refOk (positives x.pats) y = true by simp [refOk]; omega]; rfl
                              go_wp2
                              go_roundw
                              case rel => exact ⟨m + 1, by omega, by go_num, HX.out, HBX3.out.below (R1 _), HRZ3.out.below (R1 _), hbo3.alloc hbo3.size _⟩
                              case measure => simp [intOf]; omega
                        · by_cases k1 : y.k < 1
                          · have HX : Hid (chk rs = (5, (k : Int), ((x.pats.length + 1 + m : Nat) : Int))) := show chk rs = _ from by
                              have h1 : refs x = some (x.pats.length + 1 + m) := by rw [HM.out, HDM.out, firstBad_cons, show refOk (positives x.pats) y = false by simp [refOk, hkd]; omega]; rfl
                              rw [HG.out, HD.out, chkGo_cons, HC1.out, h1, if_neg (by simp)]
                            exact (chk_no H0 HX (by decide)).elim
                          · by_cases k2 : (positives x.pats : Int) < y.k
                            · have HX : Hid (chk rs = (5, (k : Int), ((x.pats.length + 1 + m : Nat) : Int))) := show chk rs = _ from by
                                have h1 : refs x = some (x.pats.length + 1 + m) := by rw [HM.out, HDM.out, firstBad_cons, show refOk (positives x.pats) y = false by simp [refOk, hkd]; omega]; rfl
                                rw [HG.out, HD.out, chkGo_cons, HC1.out, h1, if_neg (by simp)]
                              exact (chk_no H0 HX (by decide)).elim
                            · have HX : Hid (refs x = firstBad (refOk (positives x.pats)) (x.acts.drop (m + 1)) (x.pats.length + 1 + (m + 1))) := show refs x = _ from by rw [HM.out, HDM.out, firstBad_cons, show refOk (positives x.pats) y = true by simp [refOk]; omega]; rfl
                              go_wp2
                              go_roundw
                              case rel => exact ⟨m + 1, by omega, by go_num, HX.out, HBX3.out.below (R1 _), HRZ3.out.below (R1 _), hbo3.alloc hbo3.size _⟩
                              case measure => simp [intOf]; omega
                      · have hk2 : ¬ y.kind = 2 := fun h => hkd (.inl h)
                        have hk3 : ¬ y.kind = 3 := fun h => hkd (.inr h)
                        have HX : Hid (refs x = firstBad (refOk (positives x.pats)) (x.acts.drop (m + 1)) (x.pats.length + 1 + (m + 1))) := show refs x = _ from by rw [HM.out, HDM.out, firstBad_cons, show refOk (positives x.pats) y = true by simp [refOk, hk2, hk3]]; rfl
                        go_wp2
                        go_roundw
                        case rel => exact ⟨m + 1, by omega, by go_num, HX.out, HBX3.out.below (R1 _), HRZ3.out.below (R1 _), hbo3.alloc hbo3.size _⟩
                        case measure => simp [intOf]; omega
                    · have h1 : refs x = none := by rw [HM.out, List.drop_eq_nil_of_le (by omega)]; rfl
                      have HX : Hid (chk rs = chkGo (rs.take (k + 1)) (rs.drop (k + 1)) (k + 1)) := show chk rs = _ from by rw [HG.out, HD.out, chkGo_cons, HC1.out, h1, if_pos rfl, HT.out]
                      clear hbox3 h1
                      go_wp2
                      go_roundw
                      case rel => exact ⟨k + 1, by omega, by go_num, HX.out, HRZ3.out, hbw3⟩
                      case measure => simp [intOf]; omega
              · have HC1 : Hid (chk1 (rs.take k) x = (3, 0)) := show chk1 (rs.take k) x = _ from by
                  unfold chk1
                  rw [hshape]
                  simp only
                  rw [HANY.out, if_neg (by decide), if_neg hr]
                have HX : Hid (chk rs = (3, (k : Int), 0)) := show chk rs = _ from by rw [HG.out, HD.out, chkGo_cons, HC1.out, if_neg (by simp)]
                exact (chk_no H0 HX (by decide)).elim
      · obtain ⟨y0, y1, y2, f0, f1, f2⟩ := hrz.get
        go_wp2
        refine bodyPost_ret (v := .agg #[.int .i64 0, .int .i64 0, .int .i64 0]) (by simp [results, Tryz.results22, go_sem, y0, y1, y2]) rfl ⟨rfl, ?_⟩
        exact ((hb.setCell (Nat.le_refl _) _).setCell (Nat.le_refl _) _).setCell (Nat.le_refl _) _
set_option maxHeartbeats 800000 in
theorem l2Checked_yes (rs : List Ru) (a : Option Addr) (c : Nat) {q : Option Nat} (w : World) (hv : RusAt q w a rs) (hc : rs.length ≤ c) (hle : ListLe Ru.le 1048576 rs) (ho : ∀ x ∈ rs, OpsOk x.exprs) (H0 : (chk rs).1 = 0) :
    Calls Tryz.prog 9 #[.slice a rs.length c] w fun e w' => e = .returned (.bool true) ∧ Below w.heap.size w w' := by
  have HC := hidYc (sCheckRules_yes a c rs q w hv hc hle ho H0)
  unfold ckV at HC
  go_enter Tryz.func9, Tryz.ntmps9
  go_wp2_with (go_at_call 22; with_reducible refine HC.out.mono ?_; rintro e w1 ⟨rfl, hb1⟩)
  go_ret
  exact ⟨rfl, hb1⟩
end Go.Proofs.YtgkoiojelckblaaGreatDoor
