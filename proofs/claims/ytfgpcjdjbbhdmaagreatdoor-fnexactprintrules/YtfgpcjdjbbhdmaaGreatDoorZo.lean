/-
  OUR OWN TEXT. Ic5, Ic7, one behind the other.
-/
import Derived.Test.YtfgpcjdjbbhdmaaGreatDoorZe
import Derived.Test.YtfgpcjdjbbhdmaaGreatDoorZg
import Derived.Test.YtfgpcjdjbbhdmaaGreatDoorZk
import Derived.Test.YtfgpcjdjbbhdmaaGreatDoorBxm
namespace Go.Proofs.YtfgpcjdjbbhdmaaGreatDoor
open Go.RowKit
attribute [local go_sem ↓] Go.wp_at_zero Go.wp_at_succ

set_option maxHeartbeats 800000 in
theorem positives_any (x : Ru) (a_pats : Option Addr) (c_pats : Nat) (a_exprs : Option Addr) (c_exprs : Nat) (a_acts : Option Addr) (c_acts : Nat) {q : Option Nat} (w : World) (h_pats : PtsAt q w a_pats x.pats) (hl : x.pats.length ≤ 1048576) :
    Calls Tryz.prog 137 #[.agg #[.string x.name, .int .i64 x.sal, .slice a_pats x.pats.length c_pats, .slice a_exprs x.exprs.length c_exprs, .slice a_acts x.acts.length c_acts]] w fun e w' =>
      e = .returned (.int .i64 (positives x.pats : Int)) ∧ Below w.heap.size w w' := by
  go_enter Tryz.func137, Tryz.ntmps137
  go_wp2
  go_loopw [3, 9] (fun l i wr => ∃ (k : Nat), k ≤ x.pats.length ∧ i = .int .i64 k ∧ l = .int .i64 (positives (x.pats.take k) : Int) ∧ Below w.heap.size w wr) (fun _ i _ => x.pats.length - (intOf i).toNat)
  case atStart => exact ⟨0, by omega, rfl, by simp [positives], (Below.refl _ _).alloc (Nat.le_refl _) _⟩
  case round =>
    obtain ⟨k, hk, rfl, rfl, hb⟩ := hrel
    have hp : positives (x.pats.take k) ≤ x.pats.length := Nat.le_trans List.countP_le_length (by simp; omega)
    by_cases hkl : k < x.pats.length
    · obtain ⟨p, hpk⟩ : ∃ p, x.pats[k]? = some p := ⟨x.pats[k], by simp [hkl]⟩
      obtain ⟨b, o, a_terms, c_terms, rfl, hq, c0, c1, c2, h_terms⟩ := (h_pats.below hb).get hpk
      have HT : Hid (x.pats.take (k + 1) = x.pats.take k ++ [p]) := take_succ' _ _ _ hpk
      have B1 : ∀ o, Below w.heap.size w (wr.alloc o) := fun o => hb.alloc hb.size _
      cases hn : p.neg
      all_goals
        rw [hn] at c0
        go_wp2
        go_roundw
        case rel => exact ⟨k + 1, by omega, by go_num, by rw [HT.out]; simp [positives, pos1, hn], B1 _⟩
        case measure => simp [intOf]; omega
    · go_wp2
      go_ret
      rw [List.take_of_length_le (by omega)]
      exact ⟨rfl, hb⟩

theorem firstBad_cons {α : Type} (f : α → Bool) (x : α) (r : List α) (k : Nat) : firstBad f (x :: r) k = if f x then firstBad f r (k + 1) else some k := rfl
/-- An item, 0 for none. -/
def item0 : Option Nat → Int
  | none => 0
  | some i => (i : Int)

set_option maxHeartbeats 800000 in
theorem wrongRef_any (x : Ru) (a_pats : Option Addr) (c_pats : Nat) (a_exprs : Option Addr) (c_exprs : Nat) (a_acts : Option Addr) (c_acts : Nat) {q : Option Nat} (w : World) (h_pats : PtsAt q w a_pats x.pats) (h_acts : AcsAt q w a_acts x.acts) (hl : x.pats.length ≤ 1048576) (hla : x.acts.length ≤ 1048576) :
    Calls Tryz.prog 139 #[.agg #[.string x.name, .int .i64 x.sal, .slice a_pats x.pats.length c_pats, .slice a_exprs x.exprs.length c_exprs, .slice a_acts x.acts.length c_acts]] w fun e w' =>
      e = .returned (.int .i64 (item0 (refs x))) ∧ Below w.heap.size w w' := by
  have B0 : ∀ o, Below w.heap.size w (w.alloc o) := fun o => (Below.refl _ _).alloc (Nat.le_refl _) _
  have hpos : positives x.pats ≤ x.pats.length := List.countP_le_length
  go_enter Tryz.func139, Tryz.ntmps139
  go_wp2_with (go_at_call 137; refine (positives_any x a_pats c_pats a_exprs c_exprs a_acts c_acts _ (h_pats.below (B0 _)) hl).mono ?_; rintro e w1 ⟨rfl, hb1⟩; have q2 : w1.cell? ⟨w.heap.size, 2, none⟩ = some (.slice a_pats x.pats.length c_pats) := cell_below hb1 (by simp [go_sem]); have q4 : w1.cell? ⟨w.heap.size, 4, none⟩ = some (.slice a_acts x.acts.length c_acts) := cell_below hb1 (by simp [go_sem]))
  have hB1 : Below w.heap.size w w1 := (B0 _).trans (hb1.mono (by simp))
  have hs1 : w.heap.size < w1.heap.size := by have := hb1.size; simp at this; omega
  clear hb1 q4
  go_loopw [12] (fun i wr => ∃ (k : Nat), k ≤ x.acts.length ∧ i = .int .i64 k ∧ refs x = firstBad (refOk (positives x.pats)) (x.acts.drop k) (x.pats.length + 1 + k) ∧ wr.cell? ⟨w.heap.size, 2, none⟩ = some (.slice a_pats x.pats.length c_pats) ∧ w.heap.size < wr.heap.size ∧ Below w.heap.size w wr) (fun i _ => x.acts.length - (intOf i).toNat)
  case atStart => exact ⟨0, by omega, rfl, rfl, q2, hs1, hB1⟩
  case round =>
    obtain ⟨k, hk, rfl, hG, hq2, hws, hb⟩ := hrel
    have HG : Hid (refs x = firstBad (refOk (positives x.pats)) (x.acts.drop k) (x.pats.length + 1 + k)) := hG
    clear hG
    by_cases hkl : k < x.acts.length
    · obtain ⟨y, hyk⟩ : ∃ y, x.acts[k]? = some y := ⟨x.acts[k], by simp [hkl]⟩
      obtain ⟨b, o, a_args, c_args, rfl, hq, c0, c1, c2, c3, h_args⟩ := (h_acts.below hb).get hyk
      have HD : Hid (x.acts.drop k = y :: x.acts.drop (k + 1)) := drop_cons hyk
      have B1 : ∀ o, Below w.heap.size w (wr.alloc o) := fun o => hb.alloc hb.size _
      have hqA : ∀ o, (wr.alloc o).cell? ⟨w.heap.size, 2, none⟩ = some (.slice a_pats x.pats.length c_pats) := fun o => by
        have : Below wr.heap.size wr (wr.alloc o) := (Below.refl _ _).alloc (Nat.le_refl _) _
        exact cell_below this hq2
      have hwA : ∀ o, w.heap.size < (wr.alloc o).heap.size := fun o => by simp; omega
      have good : refOk (positives x.pats) y = true → refs x = firstBad (refOk (positives x.pats)) (x.acts.drop (k + 1)) (x.pats.length + 1 + (k + 1)) := fun h => by
        rw [HG.out, HD.out, firstBad_cons, h]
        rfl
      have bad : refOk (positives x.pats) y = false → refs x = some (x.pats.length + 1 + k) := fun h => by
        rw [HG.out, HD.out, firstBad_cons, h]
        rfl
      obtain ⟨GD⟩ : Nonempty (Hid ((refOk (positives x.pats) y = true → refs x = firstBad (refOk (positives x.pats)) (x.acts.drop (k + 1)) (x.pats.length + 1 + (k + 1))) ∧ (refOk (positives x.pats) y = false → refs x = some (x.pats.length + 1 + k)))) := ⟨⟨good, bad⟩⟩
      clear good bad
      by_cases k23 : y.kind = 2 ∨ y.kind = 3
      · by_cases r0 : y.k < 1
        · have HB : Hid (refs x = some (x.pats.length + 1 + k)) := GD.out.2 (by
            rcases k23 with h | h <;> simp [refOk, h] <;> omega)
          rcases k23 with h | h
          all_goals
            go_wp2
            go_ret
            exact ⟨ret_int (by rw [HB.out]; simp [item0]; omega), B1 _⟩
        · by_cases r1 : (positives x.pats : Int) < y.k
          · have HB : Hid (refs x = some (x.pats.length + 1 + k)) := GD.out.2 (by
              rcases k23 with h | h <;> simp [refOk, h] <;> omega)
            rcases k23 with h | h
            all_goals
              go_wp2
              go_ret
              exact ⟨ret_int (by rw [HB.out]; simp [item0]; omega), B1 _⟩
          · have HB : Hid (refs x = firstBad (refOk (positives x.pats)) (x.acts.drop (k + 1)) (x.pats.length + 1 + (k + 1))) := GD.out.1 (by
              rcases k23 with h | h <;> simp [refOk, h] <;> omega)
            rcases k23 with h | h
            all_goals
              go_wp2
              go_roundw
              case rel => exact ⟨k + 1, by omega, by go_num, HB.out, hqA _, hwA _, B1 _⟩
              case measure => simp [intOf]; omega
      · have h2 : (y.kind == 2) = false := by simp; omega
        have h3 : (y.kind == 3) = false := by simp; omega
        have HB : Hid (refs x = firstBad (refOk (positives x.pats)) (x.acts.drop (k + 1)) (x.pats.length + 1 + (k + 1))) := GD.out.1 (by simp [refOk, h2, h3])
        go_wp2
        go_roundw
        case rel => exact ⟨k + 1, by omega, by go_num, HB.out, hqA _, hwA _, B1 _⟩
        case measure => simp [intOf]; omega
    · go_wp2
      go_ret
      exact ⟨ret_int (by rw [HG.out, List.drop_eq_nil_of_le (by omega)]; rfl), hb⟩
end Go.Proofs.YtfgpcjdjbbhdmaaGreatDoor

namespace Go.Proofs.YtfgpcjdjbbhdmaaGreatDoor
open Go.RowKit
attribute [local go_sem ↓] Go.wp_at_zero Go.wp_at_succ

def rest (x : Ru) : Option Nat := if (spansGo [] x.exprs).length < x.exprs.length then some ((spansGo [] x.exprs).length + 1) else actsGo (spansGo [] x.exprs) x.acts 0 1
theorem shape_go (x : Ru) (h : headOk x = true) : shape x = match firstBad gPt x.pats 1 with | some i => some i | none => rest x := by
  unfold shape rest
  rw [if_pos h]
  cases firstBad gPt x.pats 1 <;> rfl
theorem actsGo_cons (S : List Sp) (a : Ac) (r : List Ac) (nx k : Nat) : actsGo S (a :: r) nx k = match gAc S a nx with | none => some k | some nx' => actsGo S r nx' (k + 1) := rfl

set_option maxHeartbeats 3200000 in
theorem shape_any (x : Ru) (a_pats : Option Addr) (c_pats : Nat) (a_exprs : Option Addr) (c_exprs : Nat) (a_acts : Option Addr) (c_acts : Nat) {q : Option Nat} (w : World) (h_pats : PtsAt q w a_pats x.pats) (h_exprs : ExsAt q w a_exprs x.exprs) (h_acts : AcsAt q w a_acts x.acts) (hle : x.le 1048576) (ho : OpsOk x.exprs) :
    Calls Tryz.prog 136 #[.agg #[.string x.name, .int .i64 x.sal, .slice a_pats x.pats.length c_pats, .slice a_exprs x.exprs.length c_exprs, .slice a_acts x.acts.length c_acts]] w fun e w' =>
      (∃ i : Int, e = .returned (.tuple #[.int .i64 i, .bool (shape x).isNone]) ∧ ∀ n, shape x = some n → i = (n : Int)) ∧ Below w.heap.size w w' := by
  obtain ⟨hsn0, hsp, hse, hsa⟩ := hle
  have hsn : x.name.size ≤ maxLen := Nat.le_trans hsn0 mega_le
  have hpl := hsp.1
  have hel := hse.1
  have hal := hsa.1
  have B0 : ∀ o, Below w.heap.size w (w.alloc o) := fun o => (Below.refl _ _).alloc (Nat.le_refl _) _
  cases hg : gSym x.name.data.toList
  · have HN : Hid (shape x = some 0) := show shape x = some 0 from by simp [shape, headOk, hg]
    go_enter Tryz.func136, Tryz.ntmps136
    go_wp2_with (go_at_call 172; refine (goodSymbol_any x.name _ hsn).mono ?_; rintro e w' ⟨rfl, rfl⟩)
    refine bodyPost_ret (v := .tuple #[.int .i64 0, .bool false]) (by simp [results, Tryz.results136, go_sem]) rfl ⟨⟨0, by rw [HN.out]; rfl, fun i h => (by rw [HN.out] at h; injection h with h; subst h; rfl)⟩, B0 _⟩
  by_cases l6 : 6 < x.pats.length
  · have l6' : (6 : Int) < (x.pats.length : Int) := by omega
    have HN : Hid (shape x = some 0) := show shape x = some 0 from by simp [shape, headOk]; omega
    go_enter Tryz.func136, Tryz.ntmps136
    go_wp2_with (go_at_call 172; refine (goodSymbol_any x.name _ hsn).mono ?_; rintro e w' ⟨rfl, rfl⟩)
    refine bodyPost_ret (v := .tuple #[.int .i64 0, .bool false]) (by simp [results, Tryz.results136, go_sem]) rfl ⟨⟨0, by rw [HN.out]; rfl, fun i h => (by rw [HN.out] at h; injection h with h; subst h; rfl)⟩, B0 _⟩
  have l6' : ¬ (6 : Int) < (x.pats.length : Int) := by omega
  by_cases l8 : 8 < x.acts.length
  · have l8' : (8 : Int) < (x.acts.length : Int) := by omega
    have HN : Hid (shape x = some 0) := show shape x = some 0 from by simp [shape, headOk]; omega
    go_enter Tryz.func136, Tryz.ntmps136
    go_wp2_with (go_at_call 172; refine (goodSymbol_any x.name _ hsn).mono ?_; rintro e w' ⟨rfl, rfl⟩)
    refine bodyPost_ret (v := .tuple #[.int .i64 0, .bool false]) (by simp [results, Tryz.results136, go_sem]) rfl ⟨⟨0, by rw [HN.out]; rfl, fun i h => (by rw [HN.out] at h; injection h with h; subst h; rfl)⟩, B0 _⟩
  have l8' : ¬ (8 : Int) < (x.acts.length : Int) := by omega
  by_cases l60 : 60 < x.exprs.length
  · have l60' : (60 : Int) < (x.exprs.length : Int) := by omega
    have HN : Hid (shape x = some 0) := show shape x = some 0 from by simp [shape, headOk]; omega
    go_enter Tryz.func136, Tryz.ntmps136
    go_wp2_with (go_at_call 172; refine (goodSymbol_any x.name _ hsn).mono ?_; rintro e w' ⟨rfl, rfl⟩)
    refine bodyPost_ret (v := .tuple #[.int .i64 0, .bool false]) (by simp [results, Tryz.results136, go_sem]) rfl ⟨⟨0, by rw [HN.out]; rfl, fun i h => (by rw [HN.out] at h; injection h with h; subst h; rfl)⟩, B0 _⟩
  have l60' : ¬ (60 : Int) < (x.exprs.length : Int) := by omega
  have HH : Hid (shape x = match firstBad gPt x.pats 1 with | some i => some i | none => rest x) := shape_go x (by simp [headOk, hg]; omega)
  go_enter Tryz.func136, Tryz.ntmps136
  go_wp2_with (go_at_call 172; refine (goodSymbol_any x.name _ hsn).mono ?_; rintro e w' ⟨rfl, rfl⟩)
  go_loopw [35] (fun i wr => ∃ (k : Nat), k ≤ x.pats.length ∧ i = .int .i64 k ∧ (shape x = match firstBad gPt (x.pats.drop k) (k + 1) with | some i => some i | none => rest x) ∧ RuBox wr w.heap.size x a_pats c_pats a_exprs c_exprs a_acts c_acts ∧ Below w.heap.size w wr) (fun i _ => x.pats.length - (intOf i).toNat)
  case atStart => exact ⟨0, by omega, rfl, HH.out, RuBox.made _ _ _ _ _ _ _ _ _, B0 _⟩
  case round =>
    obtain ⟨k, hk, rfl, hG, hbox, hb⟩ := hrel
    have HG : Hid (shape x = match firstBad gPt (x.pats.drop k) (k + 1) with | some i => some i | none => rest x) := hG
    clear hG
    by_cases hkl : k < x.pats.length
    · obtain ⟨p, hpk⟩ : ∃ p, x.pats[k]? = some p := ⟨x.pats[k], by simp [hkl]⟩
      obtain ⟨b, o, a_terms, c_terms, rfl, hq, c0, c1, c2, h_terms⟩ := (h_pats.below hb).get hpk
      have hpp := hsp.2 p (List.mem_of_getElem? hpk)
      have HD : Hid (x.pats.drop k = p :: x.pats.drop (k + 1)) := drop_cons hpk
      have B1 : ∀ o, Below wr.heap.size wr (wr.alloc o) := fun o => (Below.refl _ _).alloc (Nat.le_refl _) _
      cases hgp : gPt p
      all_goals
        go_wp2_with (go_at_call 173; refine (patRight_any p a_terms c_terms _ (h_terms.below (B1 _)) (Nat.le_trans hpp.1 mega_le) (hpp.2.mono mega_le (Tm.mono mega_le)) hpp.2.1).mono ?_; rintro e w1 ⟨rfl, hb1⟩)
      · have HN : Hid (shape x = some (k + 1)) := show shape x = _ from by rw [HG.out, HD.out, firstBad_cons, hgp]; rfl
        have hW1 : Below wr.heap.size wr w1 := (B1 _).trans (hb1.mono (by simp))
        refine bodyPost_ret (v := .tuple #[.int .i64 ((k : Int) + 1), .bool false]) (by simp [results, Tryz.results136, go_sem]) rfl ⟨⟨(k : Int) + 1, by rw [HN.out]; rfl, fun i h => (by rw [HN.out] at h; injection h with h; subst h; simp)⟩, hb.trans (hW1.mono hb.size)⟩
      · have HN : Hid (shape x = match firstBad gPt (x.pats.drop (k + 1)) (k + 1 + 1) with | some i => some i | none => rest x) := show shape x = _ from by rw [HG.out, HD.out, firstBad_cons, hgp]; rfl
        have hW1 : Below wr.heap.size wr w1 := (B1 _).trans (hb1.mono (by simp))
        go_roundw
        case rel => exact ⟨k + 1, by omega, by go_num, HN.out, hbox.below hW1, hb.trans (hW1.mono hb.size)⟩
        case measure => simp [intOf]; omega
    · have HR : Hid (shape x = rest x) := show shape x = rest x from by rw [HG.out, List.drop_eq_nil_of_le (by omega)]; rfl
      have HBX := hideIt hbox
      obtain ⟨q0, q1, q2, q3, q4⟩ := hbox
      obtain ⟨HSp, HSl⟩ := spansGo_spans (es := x.exprs) (l := x.exprs) (Spans.nil x.exprs) rfl
      have hSl := HSp.1
      have HS := hideIt HSp
      clear HSp HSl
      by_cases hfull : (spansGo [] x.exprs).length = x.exprs.length
      · have HF : Hid (rest x = actsGo (spansGo [] x.exprs) x.acts 0 1) := show rest x = _ from by unfold rest; rw [if_neg (by omega)]
        have hdt : decide ((spansGo [] x.exprs).length = x.exprs.length) = true := decide_eq_true hfull
        have hfl := hideIt hfull
        clear hfull
        go_wp2_with (go_at_call 174; refine (spans_any x a_pats c_pats a_exprs c_exprs a_acts c_acts _ (h_exprs.below hb) (by omega) (hse.mono mega_le (Ex.mono mega_le)) ho).mono ?_; rintro e w1 ⟨⟨a_s, c_s, rfl, hsps⟩, hb1⟩; have r4 := cell_below hb1 q4)
        have hbx1 := HBX.out.below hb1
        have hB1 : Below w.heap.size w w1 := hb.trans (hb1.mono hb.size)
        clear q0 q1 q2 q3 q4 r4 HBX hb1 hdt
        go_loopw [7, 59] (fun nv i wr' => ∃ (k nk : Nat), k ≤ x.acts.length ∧ i = .int .i64 k ∧ nv = .int .i64 (nk : Int) ∧ nk ≤ 60 ∧ shape x = actsGo (spansGo [] x.exprs) (x.acts.drop k) nk (k + 1) ∧ RuBox wr' w.heap.size x a_pats c_pats a_exprs c_exprs a_acts c_acts ∧ SpsAt none wr' a_s (spansGo [] x.exprs) ∧ Below w.heap.size w wr') (fun _ i _ => x.acts.length - (intOf i).toNat)
        case atStart => exact ⟨0, 0, by omega, rfl, rfl, by omega, by rw [HR.out, HF.out]; rfl, hbx1, hsps, hB1⟩
        case round =>
          obtain ⟨k, nk, hk, rfl, rfl, hnk, hG, hbox2, hsp2, hb2⟩ := hrel
          have HG2 := hideIt hG
          have HBX2 := hideIt hbox2
          clear hG
          by_cases hkl2 : k < x.acts.length
          · obtain ⟨y, hyk⟩ : ∃ y, x.acts[k]? = some y := ⟨x.acts[k], by simp [hkl2]⟩
            obtain ⟨b, o, a_args, c_args, rfl, hq, c0, c1, c2, c3, h_args⟩ := (h_acts.below hb2).get hyk
            have hyy := hsa.2 y (List.mem_of_getElem? hyk)
            have HD : Hid (x.acts.drop k = y :: x.acts.drop (k + 1)) := drop_cons hyk
            have B1 : ∀ o, Below wr.heap.size wr (wr.alloc o) := fun o => (Below.refl _ _).alloc (Nat.le_refl _) _
            clear hbox2
            cases hga : gAc (spansGo [] x.exprs) y nk with
            | none =>
              have HN : Hid (shape x = some (k + 1)) := show shape x = _ from by rw [HG2.out, HD.out, actsGo_cons, hga]
              have hAR := hideIt (fun w h1 h2 => actRight_any y a_args c_args a_s c_s (spansGo [] x.exprs) nk (q := q) (q' := none) w h1 h2 (by omega) (Nat.le_trans hyy.1 mega_le) hyy.2 hnk)
              rw [hga] at hAR
              go_wp2_with (go_at_call 175; refine (hAR.out _ (h_args.below (B1 _)) (hsp2.below (B1 _))).mono ?_; rintro e w3 ⟨⟨v, rfl, hvn⟩, hb3⟩)
              have hW3 : Below wr.heap.size wr w3 := (B1 _).trans (hb3.mono (by simp))
              refine bodyPost_ret (v := .tuple #[.int .i64 ((k : Int) + 1), .bool false]) (by simp [results, Tryz.results136, go_sem]) rfl ⟨⟨(k : Int) + 1, by rw [HN.out]; rfl, fun i h => (by rw [HN.out] at h; injection h with h; subst h; simp)⟩, hb2.trans (hW3.mono hb2.size)⟩
            | some nk' =>
              have HN : Hid (shape x = actsGo (spansGo [] x.exprs) (x.acts.drop (k + 1)) nk' (k + 1 + 1)) := show shape x = _ from by rw [HG2.out, HD.out, actsGo_cons, hga]
              have hAR := hideIt (fun w h1 h2 => actRight_any y a_args c_args a_s c_s (spansGo [] x.exprs) nk (q := q) (q' := none) w h1 h2 (by omega) (Nat.le_trans hyy.1 mega_le) hyy.2 hnk)
              rw [hga] at hAR
              go_wp2_with (go_at_call 175; refine (hAR.out _ (h_args.below (B1 _)) (hsp2.below (B1 _))).mono ?_; rintro e w3 ⟨⟨v, rfl, hvn⟩, hb3⟩; obtain ⟨rfl, hn60⟩ := hvn nk' rfl)
              have hW3 : Below wr.heap.size wr w3 := (B1 _).trans (hb3.mono (by simp))
              go_roundw
              case rel => exact ⟨k + 1, nk', by omega, by go_num, rfl, hn60, HN.out, HBX2.out.below hW3, hsp2.below hW3, hb2.trans (hW3.mono hb2.size)⟩
              case measure => simp [intOf]; omega
          · have e0 : x.acts.drop k = [] := List.drop_eq_nil_of_le (by omega)
            obtain ⟨q0, q1, q2, q3, q4⟩ := hbox2
            have hkk : k = x.acts.length := by omega
            have HE : Hid (shape x = if nk = (spansGo [] x.exprs).length then none else some (k + 1)) := show shape x = _ from by rw [HG2.out, e0]; rfl
            go_wp2
            by_cases hfin : nk = (spansGo [] x.exprs).length
            · refine bodyPost_ret (v := .tuple #[.int .i64 ((x.acts.length : Int) + 1), .bool true]) (by simp [results, Tryz.results136, go_sem, hfin]) rfl ⟨⟨_, by rw [HE.out, if_pos hfin]; rfl, fun i h => (by rw [HE.out, if_pos hfin] at h; cases h)⟩, hb2⟩
            · have hfin' : ((nk : Int) == ((spansGo [] x.exprs).length : Int)) = false := by simp; omega
              refine bodyPost_ret (v := .tuple #[.int .i64 ((x.acts.length : Int) + 1), .bool false]) (by simp [results, Tryz.results136, go_sem]; omega) rfl ⟨⟨_, by rw [HE.out, if_neg hfin]; rfl, fun i h => (by rw [HE.out, if_neg hfin] at h; injection h with h; subst h; simp; omega)⟩, hb2⟩
      · have HF : Hid (rest x = some ((spansGo [] x.exprs).length + 1)) := show rest x = _ from by unfold rest; rw [if_pos (by omega)]
        have hdt : decide ((spansGo [] x.exprs).length = x.exprs.length) = false := decide_eq_false hfull
        have hfl := hideIt hfull
        clear hfull
        go_wp2_with (go_at_call 174; refine (spans_any x a_pats c_pats a_exprs c_exprs a_acts c_acts _ (h_exprs.below hb) (by omega) (hse.mono mega_le (Ex.mono mega_le)) ho).mono ?_; rintro e w1 ⟨⟨a_s, c_s, rfl, hsps⟩, hb1⟩)
        refine bodyPost_ret (v := .tuple #[.int .i64 (((spansGo [] x.exprs).length : Int) + 1), .bool false]) (by simp [results, Tryz.results136, go_sem]) rfl ⟨⟨((spansGo [] x.exprs).length : Int) + 1, by rw [HR.out, HF.out]; rfl, fun i h => (by rw [HR.out, HF.out] at h; injection h with h; subst h; simp)⟩, hb.trans (hb1.mono hb.size)⟩
end Go.Proofs.YtfgpcjdjbbhdmaaGreatDoor
