/-
  OUR OWN TEXT. Ic11, Ic12, one behind the other.
-/
import Derived.Test.YtfgpcjdjbbhdmaaGreatDoorZo
import Derived.Test.YtfgpcjdjbbhdmaaGreatDoorZm
import Derived.Deep.RegionHeld3
import Derived.Deep.DrawnRows
namespace Go.Proofs.YtfgpcjdjbbhdmaaGreatDoor
open Go.RowKit
attribute [local go_sem ↓] Go.wp_at_zero Go.wp_at_succ

theorem ret_pair {a b : Int} {p : Int × Int} (h : p = (a, b)) : Ending.returned (.tuple #[.int .i64 a, .int .i64 b]) = .returned (.tuple #[.int .i64 p.1, .int .i64 p.2]) := by rw [h]

theorem firstBad_none {α : Type} {f : α → Bool} : ∀ {l : List α} {k : Nat}, firstBad f l k = none → ∀ x ∈ l, f x = true
  | [], _, _, x, hx => by simp at hx
  | y :: r, k, h, x, hx => by
    rw [firstBad_cons] at h
    split at h
    · rename_i hy
      rcases List.mem_cons.1 hx with rfl | hm
      · exact hy
      · exact firstBad_none h x hm
    · cases h
theorem argsGo_mem {S : List Sp} : ∀ {l : List Int} {nx n : Nat}, argsGo S l nx = some n → ∀ v ∈ l, 0 ≤ v ∧ v < (S.length : Int)
  | [], _, _, _, v, hv => by simp at hv
  | x :: r, nx, n, h, v, hv => by
    rw [argsGo_cons] at h
    split at h
    · rename_i hc
      simp only [Bool.and_eq_true, decide_eq_true_eq] at hc
      rcases List.mem_cons.1 hv with rfl | hm
      · exact ⟨hc.1, hc.2.1⟩
      · exact argsGo_mem h v hm
    · cases h
theorem actsGo_none {S : List Sp} : ∀ {l : List Ac} {nx k : Nat}, actsGo S l nx k = none → ∀ y ∈ l, ∀ v ∈ y.args, 0 ≤ v ∧ v < (S.length : Int)
  | [], _, _, _, y, hy, _, _ => by simp at hy
  | a :: r, nx, k, h, y, hy, v, hv => by
    rw [actsGo_cons] at h
    cases hg : gAc S a nx with
    | none => rw [hg] at h; cases h
    | some n' =>
      rw [hg] at h
      rcases List.mem_cons.1 hy with rfl | hm
      · unfold gAc at hg
        split at hg
        · exact argsGo_mem hg v hv
        · cases hg
      · exact actsGo_none h y hm v hv
/-- What a rule of right shape has. -/
theorem shape_none {x : Ru} (h : shape x = none) : x.pats.length ≤ 6 ∧ x.acts.length ≤ 8 ∧ x.exprs.length ≤ 60 ∧ (∀ p ∈ x.pats, p.terms.length ≤ 6) ∧ (spansGo [] x.exprs).length = x.exprs.length ∧ ∀ y ∈ x.acts, ∀ v ∈ y.args, 0 ≤ v ∧ v < (x.exprs.length : Int) := by
  have hh : headOk x = true := by
    cases hc : headOk x
    · simp [shape, hc] at h
    · rfl
  rw [shape_go x hh] at h
  have hh' := hh
  simp only [headOk, Bool.and_eq_true, decide_eq_true_eq] at hh'
  cases hf : firstBad gPt x.pats 1 with
  | some i => rw [hf] at h; cases h
  | none =>
    rw [hf] at h
    have h' : rest x = none := h
    unfold rest at h'
    split at h'
    · cases h'
    · rename_i hlt
      have hsp := (spansGo_spans (es := x.exprs) (l := x.exprs) (Spans.nil x.exprs) rfl).1.1
      have hfull : (spansGo [] x.exprs).length = x.exprs.length := by omega
      refine ⟨hh'.2.1, hh'.2.2.1, hh'.2.2.2, fun p hp => ?_, hfull, fun y hy v hv => ?_⟩
      · have := firstBad_none hf p hp
        simp only [gPt, Bool.and_eq_true, decide_eq_true_eq] at this
        exact this.2.1
      · have := actsGo_none h' y hy v hv
        omega

theorem cell_lt {w : World} {b o : Nat} {x : Value} (h : w.cell? ⟨b, o, none⟩ = some x) : b < w.heap.size := by
  by_cases hp : b < w.heap.size
  · exact hp
  · have : w.heap[b]? = none := Array.getElem?_eq_none (by omega)
    simp [World.cell?, this] at h
theorem firstBad_ge {α : Type} {f : α → Bool} : ∀ {l : List α} {k i : Nat}, firstBad f l k = some i → k ≤ i
  | [], _, _, h => by cases h
  | x :: r, k, i, h => by
    rw [firstBad_cons] at h
    split at h
    · have := firstBad_ge h
      omega
    · injection h with h
      omega
theorem patsGo_ge : ∀ {l : List Pt} {known : List ByteArray} {k i : Nat}, patsGo l known k = .inl i → k ≤ i
  | [], _, _, _, h => by cases h
  | p :: r, known, k, i, h => by
    rw [patsGo_cons] at h
    split at h
    · injection h with h
      omega
    · have := patsGo_ge h
      omega
theorem scope_pos {x : Ru} {i : Nat} (h : scope x = some i) : 1 ≤ i := by
  rw [scope_eq] at h
  split at h
  · rename_i j hj
    injection h with h
    have := patsGo_ge hj
    omega
  · have := firstBad_ge h
    omega
theorem refs_pos {x : Ru} {i : Nat} (h : refs x = some i) : 1 ≤ i := by
  have := firstBad_ge h
  omega

set_option maxHeartbeats 3200000 in
theorem check_any (x : Ru) (a_pats : Option Addr) (c_pats : Nat) (a_exprs : Option Addr) (c_exprs : Nat) (a_acts : Option Addr) (c_acts : Nat) (a_e : Option Addr) (c_e : Nat) (pre : List Ru) {q : Option Nat} (w : World) (h_pre : RusAt q w a_e pre) (h_pats : PtsAt q w a_pats x.pats) (h_exprs : ExsAt q w a_exprs x.exprs) (h_acts : AcsAt q w a_acts x.acts) (hle : x.le 1048576) (ho : OpsOk x.exprs) (hcap : x.exprs.length ≤ c_exprs) (hpl : pre.length ≤ 16) :
    Calls Tryz.prog 90 #[.agg #[.string x.name, .int .i64 x.sal, .slice a_pats x.pats.length c_pats, .slice a_exprs x.exprs.length c_exprs, .slice a_acts x.acts.length c_acts], .slice a_e pre.length c_e] w fun e w' =>
      e = .returned (.tuple #[.int .i64 (chk1 pre x).1, .int .i64 (chk1 pre x).2]) ∧ Below w.heap.size w w' := by
  have hle0 := hle
  obtain ⟨hsn0, hsp, hse, hsa⟩ := hle
  have B0 : ∀ o, Below w.heap.size w (w.alloc o) := fun o => (Below.refl _ _).alloc (Nat.le_refl _) _
  have hSH := hideH (fun w h1 h2 h3 => shape_any x a_pats c_pats a_exprs c_exprs a_acts c_acts (q := q) w h1 h2 h3 hle0 ho)
  cases hshape : shape x with
  | some i =>
    rw [hshape] at hSH
    have HC : Hid (chk1 pre x = (1, (i : Int))) := show chk1 pre x = _ from by unfold chk1; rw [hshape]
    go_enter Tryz.func90, Tryz.ntmps90
    go_wp2_with (go_at_call 136; refine (hSH.out _ (h_pats.below (B0 _)) (h_exprs.below (B0 _)) (h_acts.below (B0 _))).mono ?_; rintro e w1 ⟨⟨v, rfl, hv⟩, hb1⟩; obtain rfl := hv i rfl)
    refine bodyPost_ret (v := .tuple #[.int .i64 (1), .int .i64 ((i : Int))]) (by simp [results, Tryz.results90, go_sem]) rfl ⟨ret_pair HC.out, (B0 _).trans (hb1.mono (by simp))⟩
  | none =>
    rw [hshape] at hSH
    obtain ⟨hp6, ha8, he60, hpt, hfull, hargs⟩ := shape_none hshape
    go_enter Tryz.func90, Tryz.ntmps90
    go_wp2_with (go_at_call 136; refine (hSH.out _ (h_pats.below (B0 _)) (h_exprs.below (B0 _)) (h_acts.below (B0 _))).mono ?_; rintro e w1 ⟨⟨v, rfl, _⟩, hb1⟩)
    have hB1 : Below w.heap.size w w1 := (B0 _).trans (hb1.mono (by simp))
    have hbx := (RuBox.made w 53 x a_pats c_pats a_exprs c_exprs a_acts c_acts).below hb1
    clear hb1
    go_loopw [23] (fun i wr => ∃ (k : Nat), k ≤ pre.length ∧ i = .int .i64 k ∧ pre.any (fun o => decide (o.name = x.name)) = (pre.drop k).any (fun o => decide (o.name = x.name)) ∧ RuBox wr w.heap.size x a_pats c_pats a_exprs c_exprs a_acts c_acts ∧ Below w.heap.size w wr) (fun i _ => pre.length - (intOf i).toNat)
    case atStart => exact ⟨0, by omega, rfl, rfl, hbx, hB1⟩
    case round =>
      clear hB1 hbx
      obtain ⟨k, hk, rfl, hG, hbox, hb⟩ := hrel
      have HG := hideH hG
      have HBX := hideH hbox
      clear hG
      by_cases hkl : k < pre.length
      · obtain ⟨y, hyk⟩ : ∃ y, pre[k]? = some y := ⟨pre[k], by simp [hkl]⟩
        obtain ⟨b, o, a1, k1, a2, k2, a3, k3, rfl, hq, c0, c1, c2, c3, c4, _, _, _⟩ := (h_pre.below hb).get hyk
        have HD : Hid (pre.drop k = y :: pre.drop (k + 1)) := drop_cons hyk
        have hBa : ∀ o, Below w.heap.size w (wr.alloc o) := fun o => hb.alloc hb.size _
        have hBw : ∀ o, Below wr.heap.size wr (wr.alloc o) := fun o => (Below.refl _ _).alloc (Nat.le_refl _) _
        obtain ⟨q0, q1, q2, q3, q4⟩ := hbox
        have hws : w.heap.size < wr.heap.size := cell_lt q0
        have q0' : ∀ o, (wr.alloc o).cell? ⟨w.heap.size, 0, none⟩ = some (.string x.name) := fun o => cell_below (hBw o) q0
        clear q1 q2 q3 q4 q0
        cases e1 : (y.name.toList == x.name.toList)
        · have HX : Hid (pre.any (fun o => decide (o.name = x.name)) = (pre.drop (k + 1)).any (fun o => decide (o.name = x.name))) := show _ = _ from by
            rw [bytes_beq] at e1
            rw [HG.out, HD.out, List.any_cons, e1]
            rfl
          go_wp2
          go_roundw
          case rel => exact ⟨k + 1, by omega, by go_num, HX.out, HBX.out.below (hBw _), hBa _⟩
          case measure => simp [intOf]; omega
        · have HX : Hid (chk1 pre x = (2, 0)) := show chk1 pre x = _ from by
            rw [bytes_beq] at e1
            unfold chk1
            rw [hshape]
            simp only
            rw [HG.out, HD.out, List.any_cons, e1]
            rfl
          go_wp2
          refine bodyPost_ret (v := .tuple #[.int .i64 (2), .int .i64 (0)]) (by simp [results, Tryz.results90, go_sem]) rfl ⟨ret_pair HX.out, hBa _⟩
      · have HA : Hid (pre.any (fun o => decide (o.name = x.name)) = false) := show _ = _ from by rw [HG.out, List.drop_eq_nil_of_le (by omega)]; rfl
        have hpos : positives x.pats ≤ x.pats.length := List.countP_le_length
        have hUN := hideH (fun w h1 h2 h3 => unknownVar_any x a_pats c_pats a_exprs c_exprs a_acts c_acts (q := q) w h1 h2 h3 hle0 hp6 hpt hargs hcap he60)
        have hWR := hideH (fun w h1 h2 => wrongRef_any x a_pats c_pats a_exprs c_exprs a_acts c_acts (q := q) w h1 h2 hsp.1 hsa.1)
        obtain ⟨q0, q1, q2, q3, q4⟩ := hbox
        by_cases hr : 1 ≤ positives x.pats ∧ positives x.pats ≤ 3
        · have HC : Hid (chk1 pre x = match scope x with | some i => (4, (i : Int)) | none => match refs x with | some i => (5, (i : Int)) | none => (0, 0)) := show chk1 pre x = _ from by
            unfold chk1
            rw [hshape]
            simp only
            rw [HA.out, if_neg (by decide), if_pos hr]
            cases scope x with
            | some i => rfl
            | none => cases refs x <;> rfl
          have r0 : ¬ (positives x.pats : Int) < 1 := by omega
          have r1 : ¬ (3 : Int) < (positives x.pats : Int) := by omega
          cases hsc : scope x with
          | some i =>
            rw [hsc] at hUN HC
            simp only [item0] at hUN
            have hi0 : ((i : Int) != 0) = true := by
              have := scope_pos hsc
              simp
              omega
            go_wp2_with (first | (go_at_call 137; refine (positives_any x a_pats c_pats a_exprs c_exprs a_acts c_acts _ (h_pats.below hb) (by omega)).mono ?_; rintro e w2 ⟨rfl, hb2⟩; obtain ⟨s0, s1, s2, s3, s4⟩ := HBX.out.below hb2) | (go_at_call 138; refine (hUN.out _ (h_pats.below (hb.trans (hb2.mono hb.size))) (h_exprs.below (hb.trans (hb2.mono hb.size))) (h_acts.below (hb.trans (hb2.mono hb.size)))).mono ?_; rintro e w3 ⟨rfl, hb3⟩; obtain ⟨t0, t1, t2, t3, t4⟩ := (HBX.out.below hb2).below hb3) | fail)
            refine bodyPost_ret (v := .tuple #[.int .i64 (4), .int .i64 ((i : Int))]) (by simp [results, Tryz.results90, go_sem]) rfl ⟨ret_pair HC.out, ((hb.trans (hb2.mono hb.size)).trans (hb3.mono (hb.trans (hb2.mono hb.size)).size))⟩
          | none =>
            rw [hsc] at hUN HC
            simp only [item0] at hUN
            cases hrf : refs x with
            | some i =>
              rw [hrf] at hWR HC
              simp only [item0] at hWR
              have hi0 : ((i : Int) != 0) = true := by
                have := refs_pos hrf
                simp
                omega
              go_wp2_with (first | (go_at_call 137; refine (positives_any x a_pats c_pats a_exprs c_exprs a_acts c_acts _ (h_pats.below hb) (by omega)).mono ?_; rintro e w2 ⟨rfl, hb2⟩; obtain ⟨s0, s1, s2, s3, s4⟩ := HBX.out.below hb2) | (go_at_call 138; refine (hUN.out _ (h_pats.below (hb.trans (hb2.mono hb.size))) (h_exprs.below (hb.trans (hb2.mono hb.size))) (h_acts.below (hb.trans (hb2.mono hb.size)))).mono ?_; rintro e w3 ⟨rfl, hb3⟩; obtain ⟨t0, t1, t2, t3, t4⟩ := (HBX.out.below hb2).below hb3) | (go_at_call 139; refine (hWR.out _ (h_pats.below ((hb.trans (hb2.mono hb.size)).trans (hb3.mono (hb.trans (hb2.mono hb.size)).size))) (h_acts.below ((hb.trans (hb2.mono hb.size)).trans (hb3.mono (hb.trans (hb2.mono hb.size)).size)))).mono ?_; rintro e w4 ⟨rfl, hb4⟩) | fail)
              refine bodyPost_ret (v := .tuple #[.int .i64 (5), .int .i64 ((i : Int))]) (by simp [results, Tryz.results90, go_sem]) rfl ⟨ret_pair HC.out, (((hb.trans (hb2.mono hb.size)).trans (hb3.mono (hb.trans (hb2.mono hb.size)).size)).trans (hb4.mono ((hb.trans (hb2.mono hb.size)).trans (hb3.mono (hb.trans (hb2.mono hb.size)).size)).size))⟩
            | none =>
              rw [hrf] at hWR HC
              simp only [item0] at hWR
              go_wp2_with (first | (go_at_call 137; refine (positives_any x a_pats c_pats a_exprs c_exprs a_acts c_acts _ (h_pats.below hb) (by omega)).mono ?_; rintro e w2 ⟨rfl, hb2⟩; obtain ⟨s0, s1, s2, s3, s4⟩ := HBX.out.below hb2) | (go_at_call 138; refine (hUN.out _ (h_pats.below (hb.trans (hb2.mono hb.size))) (h_exprs.below (hb.trans (hb2.mono hb.size))) (h_acts.below (hb.trans (hb2.mono hb.size)))).mono ?_; rintro e w3 ⟨rfl, hb3⟩; obtain ⟨t0, t1, t2, t3, t4⟩ := (HBX.out.below hb2).below hb3) | (go_at_call 139; refine (hWR.out _ (h_pats.below ((hb.trans (hb2.mono hb.size)).trans (hb3.mono (hb.trans (hb2.mono hb.size)).size))) (h_acts.below ((hb.trans (hb2.mono hb.size)).trans (hb3.mono (hb.trans (hb2.mono hb.size)).size)))).mono ?_; rintro e w4 ⟨rfl, hb4⟩) | fail)
              refine bodyPost_ret (v := .tuple #[.int .i64 (0), .int .i64 (0)]) (by simp [results, Tryz.results90, go_sem]) rfl ⟨ret_pair HC.out, (((hb.trans (hb2.mono hb.size)).trans (hb3.mono (hb.trans (hb2.mono hb.size)).size)).trans (hb4.mono ((hb.trans (hb2.mono hb.size)).trans (hb3.mono (hb.trans (hb2.mono hb.size)).size)).size))⟩
        · have HC : Hid (chk1 pre x = (3, 0)) := show chk1 pre x = _ from by
            unfold chk1
            rw [hshape]
            simp only
            rw [HA.out, if_neg (by decide), if_neg hr]
          by_cases r0 : (positives x.pats : Int) < 1
          · go_wp2_with (first | (go_at_call 137; refine (positives_any x a_pats c_pats a_exprs c_exprs a_acts c_acts _ (h_pats.below hb) (by omega)).mono ?_; rintro e w2 ⟨rfl, hb2⟩; obtain ⟨s0, s1, s2, s3, s4⟩ := HBX.out.below hb2) | fail)
            refine bodyPost_ret (v := .tuple #[.int .i64 (3), .int .i64 (0)]) (by simp [results, Tryz.results90, go_sem]) rfl ⟨ret_pair HC.out, (hb.trans (hb2.mono hb.size))⟩
          · have r1 : (3 : Int) < (positives x.pats : Int) := by omega
            go_wp2_with (first | (go_at_call 137; refine (positives_any x a_pats c_pats a_exprs c_exprs a_acts c_acts _ (h_pats.below hb) (by omega)).mono ?_; rintro e w2 ⟨rfl, hb2⟩; obtain ⟨s0, s1, s2, s3, s4⟩ := HBX.out.below hb2) | fail)
            refine bodyPost_ret (v := .tuple #[.int .i64 (3), .int .i64 (0)]) (by simp [results, Tryz.results90, go_sem]) rfl ⟨ret_pair HC.out, (hb.trans (hb2.mono hb.size))⟩
end Go.Proofs.YtfgpcjdjbbhdmaaGreatDoor

namespace Go.Proofs.YtfgpcjdjbbhdmaaGreatDoor
open Go.RowKit
attribute [local go_sem ↓] Go.wp_at_zero Go.wp_at_succ

theorem chkGo_cons (pre : List Ru) (r : Ru) (s : List Ru) (k : Nat) : chkGo pre (r :: s) k = if (chk1 pre r).1 = 0 then chkGo (pre ++ [r]) s (k + 1) else ((chk1 pre r).1, (k : Int), (chk1 pre r).2) := rfl
/-- Three numbers, as a Check. -/
def ckV (p : Int × Int × Int) : Value := .agg #[.int .i64 p.1, .int .i64 p.2.1, .int .i64 p.2.2]

set_option maxHeartbeats 1600000 in
theorem iCheckRules_any (a : Option Addr) (c : Nat) (rs : List Ru) {q : Option Nat} (w : World) (hv : RusAt q w a rs) (hc : rs.length ≤ c) (hle : ListLe Ru.le 1048576 rs) (ho : ∀ x ∈ rs, OpsOk x.exprs) :
    Calls Tryz.prog 45 #[.slice a rs.length c] w fun e w' => e = .returned (ckV (chk rs)) ∧ Below w.heap.size w w' := by
  obtain ⟨hl, hle⟩ := hle
  have B0 : ∀ o, Below w.heap.size w (w.alloc o) := fun o => (Below.refl _ _).alloc (Nat.le_refl _) _
  by_cases h16 : 16 < rs.length
  · have h16' : (16 : Int) < (rs.length : Int) := by omega
    have HC : Hid (chk rs = (1, 0, 0)) := show chk rs = _ from by unfold chk; rw [if_neg (by omega)]
    go_enter Tryz.func45, Tryz.ntmps45
    go_wp2
    refine bodyPost_ret (v := .agg #[.int .i64 1, .int .i64 0, .int .i64 0]) (by simp [results, Tryz.results45, go_sem]) rfl ⟨by rw [HC.out]; rfl, B0 _⟩
  · have h16' : ¬ (16 : Int) < (rs.length : Int) := by omega
    have HC : Hid (chk rs = chkGo [] rs 0) := show chk rs = _ from by unfold chk; rw [if_pos (by omega)]
    go_enter Tryz.func45, Tryz.ntmps45
    go_wp2
    go_loopw [13] (fun i wr => ∃ (k : Nat), k ≤ rs.length ∧ i = .int .i64 k ∧ chk rs = chkGo (rs.take k) (rs.drop k) k ∧ w.heap.size < wr.heap.size ∧ (∀ j, j < 3 → wr.cell? ⟨w.heap.size, j, none⟩ = some (.int .i64 0)) ∧ (∀ j, wr.frozen? ⟨w.heap.size, j, none⟩ = false) ∧ Below w.heap.size w wr) (fun i _ => rs.length - (intOf i).toNat)
    case atStart => exact ⟨0, by omega, rfl, by rw [HC.out]; rfl, by simp, fun j hj => by (match j, hj with | 0, _ => simp [go_sem] | 1, _ => simp [go_sem] | 2, _ => simp [go_sem]), fun j => by simp [go_sem], B0 _⟩
    case round =>
      obtain ⟨k, hk, rfl, hG, hws, hy, hyf, hb⟩ := hrel
      have HG := hideH hG
      clear hG
      have y0 := hy 0 (by omega)
      have y1 := hy 1 (by omega)
      have y2 := hy 2 (by omega)
      have f0 := hyf 0
      have f1 := hyf 1
      have f2 := hyf 2
      have HY := hideH (And.intro hy hyf)
      clear hy hyf
      by_cases hkl : k < rs.length
      · obtain ⟨x, hxk⟩ : ∃ x, rs[k]? = some x := ⟨rs[k], by simp [hkl]⟩
        have hv' := hv.below hb
        obtain ⟨b, o, a_pats, c_pats, a_exprs, c_exprs, a_acts, c_acts, rfl, hq, c0, c1, c2, c3, c4, h_pats, h_exprs, h_acts, hcap⟩ := hv'.get hxk
        have hxl := hle x (List.mem_of_getElem? hxk)
        have hxo := ho x (List.mem_of_getElem? hxk)
        have HD : Hid (rs.drop k = x :: rs.drop (k + 1)) := drop_cons hxk
        have HT : Hid (rs.take (k + 1) = rs.take k ++ [x]) := take_succ' rs k x hxk
        have hlen : (rs.take k).length = k := by simp; omega
        have hBw : ∀ o, Below wr.heap.size wr (wr.alloc o) := fun o => (Below.refl _ _).alloc (Nat.le_refl _) _
        have hBa : ∀ o, Below w.heap.size w (wr.alloc o) := fun o => hb.alloc hb.size _
        have hCK := hideH (fun w' (h0 : Below wr.heap.size wr w') => check_any x a_pats c_pats a_exprs c_exprs a_acts c_acts (some ⟨b, o, none⟩) c (rs.take k) (q := q) w' (RowsAt.take (hv'.below h0) k) (h_pats.below h0) (h_exprs.below h0) (h_acts.below h0) hxl hxo hcap (by omega))
        rw [hlen] at hCK
        have z0 : (0 : Int) ≤ (k : Int) := by omega
        have z1 : (k : Int) ≤ (c : Int) := by omega
        obtain ⟨⟨p1, p2⟩, hp⟩ : ∃ p, chk1 (rs.take k) x = p := ⟨_, rfl⟩
        rw [hp] at hCK
        by_cases hp0 : p1 = 0
        · have HX : Hid (chk rs = chkGo (rs.take (k + 1)) (rs.drop (k + 1)) (k + 1)) := show chk rs = _ from by rw [HG.out, HD.out, chkGo_cons, hp, if_pos hp0, HT.out]
          subst hp0
          go_wp2
          first
          | (go_region_held3 (fun w' => w'.cell? ⟨wr.heap.size, 0, none⟩ = some (.string x.name) ∧ w'.cell? ⟨wr.heap.size, 1, none⟩ = some (.int .i64 x.sal) ∧ w'.cell? ⟨wr.heap.size, 2, none⟩ = some (.slice a_pats x.pats.length c_pats) ∧ w'.cell? ⟨wr.heap.size, 3, none⟩ = some (.slice a_exprs x.exprs.length c_exprs) ∧ w'.cell? ⟨wr.heap.size, 4, none⟩ = some (.slice a_acts x.acts.length c_acts)) ((go_split_ands; refine ⟨?_, ?_, ?_, ?_, ?_⟩ <;> first | (simp [go_sem]; done) | exact cell_below hb' (by assumption))) (first | (go_at_call 90; refine (hCK.out _ ((hBw _).drew)).mono ?_; rintro e w' ⟨rfl, hb'⟩) | fail))
          | fail
          have hW : Below wr.heap.size wr w' := (hBw _).drew.trans (hb'.mono (by have := (hBw (.map #[] 0)).size; simp))
          go_wp2
          go_roundw
          case rel => exact ⟨k + 1, by omega, by go_num, HX.out, Nat.lt_of_lt_of_le hws hW.size, fun j hj => cell_below hW (HY.out.1 j hj), fun j => by rw [(bcell hW).2 _ _ hws]; exact HY.out.2 j, hb.trans (hW.mono hb.size)⟩
          case measure => simp [intOf]; omega
        · have HX : Hid (chk rs = (p1, (k : Int), p2)) := show chk rs = _ from by rw [HG.out, HD.out, chkGo_cons, hp, if_neg hp0]
          have hp1 : (p1 != 0) = true := by simpa using hp0
          go_wp2
          first
          | (go_region_held3 (fun w' => w'.cell? ⟨wr.heap.size, 0, none⟩ = some (.string x.name) ∧ w'.cell? ⟨wr.heap.size, 1, none⟩ = some (.int .i64 x.sal) ∧ w'.cell? ⟨wr.heap.size, 2, none⟩ = some (.slice a_pats x.pats.length c_pats) ∧ w'.cell? ⟨wr.heap.size, 3, none⟩ = some (.slice a_exprs x.exprs.length c_exprs) ∧ w'.cell? ⟨wr.heap.size, 4, none⟩ = some (.slice a_acts x.acts.length c_acts)) ((go_split_ands; refine ⟨?_, ?_, ?_, ?_, ?_⟩ <;> first | (simp [go_sem]; done) | exact cell_below hb' (by assumption))) (first | (go_at_call 90; refine (hCK.out _ ((hBw _).drew)).mono ?_; rintro e w' ⟨rfl, hb'⟩) | fail))
          | fail
          have hW : Below wr.heap.size wr w' := (hBw _).drew.trans (hb'.mono (by have := (hBw (.map #[] 0)).size; simp))
          have y0' := cell_below hW y0
          have y1' := cell_below hW y1
          have y2' := cell_below hW y2
          have f0' : w'.frozen? ⟨w.heap.size, 0, none⟩ = false := by rw [(bcell hW).2 _ _ hws]; exact f0
          have f1' : w'.frozen? ⟨w.heap.size, 1, none⟩ = false := by rw [(bcell hW).2 _ _ hws]; exact f1
          have f2' : w'.frozen? ⟨w.heap.size, 2, none⟩ = false := by rw [(bcell hW).2 _ _ hws]; exact f2
          go_wp2
          have hbW := hb.trans (hW.mono hb.size)
          refine bodyPost_ret (v := .agg #[.int .i64 p1, .int .i64 (k : Int), .int .i64 p2]) (by simp [results, Tryz.results45, go_sem, y0', y1', y2']) rfl ⟨by rw [HX.out]; rfl, ?_⟩
          exact ((hbW.setCell (Nat.le_refl _) _).setCell (Nat.le_refl _) _).setCell (Nat.le_refl _) _
      · have HX : Hid (chk rs = (0, 0, 0)) := show chk rs = _ from by rw [HG.out, List.drop_eq_nil_of_le (by omega)]; rfl
        go_wp2
        refine bodyPost_ret (v := .agg #[.int .i64 0, .int .i64 0, .int .i64 0]) (by simp [results, Tryz.results45, go_sem, y0, y1, y2]) rfl ⟨by rw [HX.out]; rfl, ?_⟩
        exact ((hb.setCell (Nat.le_refl _) _).setCell (Nat.le_refl _) _).setCell (Nat.le_refl _) _
end Go.Proofs.YtfgpcjdjbbhdmaaGreatDoor
