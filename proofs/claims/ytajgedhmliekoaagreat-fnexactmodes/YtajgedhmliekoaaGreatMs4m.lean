/-
  OUR OWN TEXT. Modes: the program's side: what each way tells of a rule.
-/
import Derived.Test.YtajgedhmliekoaaGreatKa
namespace Go.Proofs.YtajgedhmliekoaaGreat
open Go.RowKit Go.Maps
attribute [local go_sem ↓] Go.wp_at_zero Go.wp_at_succ

theorem ruBoxB (w : World) (o : Obj) : Below w.heap.size w (w.alloc o) := (Below.refl _ _).alloc (Nat.le_refl _) _
theorem modes1_any (i : Nat) (x : Ru) (a_pats : Option Addr) (c_pats : Nat) (a_exprs : Option Addr) (c_exprs : Nat) (a_acts : Option Addr) (c_acts : Nat) (w : World) :
    Calls Tryz.prog 33 #[.int .i64 (i : Int), .agg #[.string x.name, .int .i64 x.sal, .slice a_pats x.pats.length c_pats, .slice a_exprs x.exprs.length c_exprs, .slice a_acts x.acts.length c_acts]] w fun e w' =>
      e = .returned (.int .i64 (modeOf 0 i x)) ∧ Below w.heap.size w w' := by
  go_enter Tryz.func33, Tryz.ntmps33
  go_wp2
  go_ret
  exact ⟨rfl, ruBoxB _ _⟩
theorem modes2_any (i : Nat) (x : Ru) (a_pats : Option Addr) (c_pats : Nat) (a_exprs : Option Addr) (c_exprs : Nat) (a_acts : Option Addr) (c_acts : Nat) (w : World) :
    Calls Tryz.prog 34 #[.int .i64 (i : Int), .agg #[.string x.name, .int .i64 x.sal, .slice a_pats x.pats.length c_pats, .slice a_exprs x.exprs.length c_exprs, .slice a_acts x.acts.length c_acts]] w fun e w' =>
      e = .returned (.int .i64 (modeOf 1 i x)) ∧ Below w.heap.size w w' := by
  go_enter Tryz.func34, Tryz.ntmps34
  go_wp2
  go_ret
  exact ⟨rfl, ruBoxB _ _⟩
theorem turns_any (i : Nat) (hi : i ≤ 1048576) (w : World) : Calls Tryz.prog 38 #[.int .i64 (i : Int)] w fun e w' => e = .returned (.int .i64 ((i : Int) % 2)) ∧ w' = w := by
  have h2 : i % 2 = 0 ∨ i % 2 = 1 := by omega
  rcases h2 with h2 | h2
  all_goals
    have h3 : (i : Int) % 2 = ((i % 2 : Nat) : Int) := by omega
    rw [h2] at h3
    have HE : Hid ((i : Int) % 2 = _) := h3
    go_enter Tryz.func38, Tryz.ntmps38
    go_wp2
    go_ret
    exact ⟨by rw [HE.out]; rfl, rfl⟩
theorem modes4_any (i : Nat) (hi : i ≤ 1048576) (x : Ru) (a_pats : Option Addr) (c_pats : Nat) (a_exprs : Option Addr) (c_exprs : Nat) (a_acts : Option Addr) (c_acts : Nat) (w : World) :
    Calls Tryz.prog 37 #[.int .i64 (i : Int), .agg #[.string x.name, .int .i64 x.sal, .slice a_pats x.pats.length c_pats, .slice a_exprs x.exprs.length c_exprs, .slice a_acts x.acts.length c_acts]] w fun e w' =>
      e = .returned (.int .i64 (modeOf 3 i x)) ∧ Below w.heap.size w w' := by
  have HT := hideH (fun w => turns_any i hi w)
  have HM : Hid (modeOf 3 i x = (i : Int) % 2) := show modeOf 3 i x = _ from rfl
  generalize modeOf 3 i x = M at HM ⊢
  generalize (i : Int) % 2 = T at HM HT
  go_enter Tryz.func37, Tryz.ntmps37
  go_wp2_with (go_at_call 38; refine (HT.out _).mono ?_; rintro e w1 ⟨rfl, rfl⟩)
  go_ret
  exact ⟨ret_int HM.out.symm, ruBoxB _ _⟩

set_option maxHeartbeats 1600000 in
theorem cost_any (x : Ru) (a_pats : Option Addr) (c_pats : Nat) (a_exprs : Option Addr) (c_exprs : Nat) (a_acts : Option Addr) (c_acts : Nat) {q : Option Nat} (w : World) (h_pats : PtsAt q w a_pats x.pats) (hs : ListLe Pt.le maxLen x.pats) (hp6 : x.pats.length ≤ 6) (ht6 : ∀ p ∈ x.pats, p.terms.length ≤ 6) (hpos : positives x.pats ≤ 3) :
    Calls Tryz.prog 36 #[.agg #[.string x.name, .int .i64 x.sal, .slice a_pats x.pats.length c_pats, .slice a_exprs x.exprs.length c_exprs, .slice a_acts x.acts.length c_acts]] w fun e w' =>
      e = .returned (.int .i64 (byCost x)) ∧ Below w.heap.size w w' := by
  have B0 : ∀ o, Below w.heap.size w (w.alloc o) := fun o => (Below.refl _ _).alloc (Nat.le_refl _) _
  have hJ : joinsOf x ≤ 36 := by
    have := joinsGo_le jnI x.pats [] ht6
    unfold joinsOf
    omega
  have hpl : positives x.pats ≤ x.pats.length := List.countP_le_length
  have HP := hideH (fun w' h => positives_any x a_pats c_pats a_exprs c_exprs a_acts c_acts (q := q) w' h (by omega))
  have HJ := hideH (fun w' h => joins_any x a_pats c_pats a_exprs c_exprs a_acts c_acts (q := q) w' h hs hp6 ht6)
  have HC : Hid (byCost x = if positives x.pats * positives x.pats * positives x.pats + 2 * (x.pats.length - positives x.pats) ≤ 4 + 2 * joinsOf x then 0 else 1) := show byCost x = _ from rfl
  have H0 := hideH (fun o => h_pats.below (B0 o))
  have H1 := hideH (fun w' h => h_pats.below (w' := w') h)
  generalize positives x.pats = p at *
  generalize hL : x.pats.length = L at *
  generalize joinsOf x = J at *
  generalize byCost x = C at *
  have hp : p = 0 ∨ p = 1 ∨ p = 2 ∨ p = 3 := by omega
  have HB0 := hideH B0
  clear hL h_pats hs ht6 B0
  rcases hp with rfl | rfl | rfl | rfl
  all_goals
    go_enter Tryz.func36, Tryz.ntmps36
    go_wp2_with (first | (go_at_call 63; with_reducible refine (HP.out _ (H0.out _)).mono ?_; rintro e w1 ⟨rfl, hb1⟩; have hB1 := (HB0.out _).trans (hb1.mono (HB0.out _).size); have d0 := cell_below hb1 (p := ⟨w.heap.size, 0, none⟩) (x := .string x.name) (by simp [go_sem]); have d1 := cell_below hb1 (p := ⟨w.heap.size, 1, none⟩) (x := .int .i64 x.sal) (by simp [go_sem]); have d2 := cell_below hb1 (p := ⟨w.heap.size, 2, none⟩) (x := .slice a_pats L c_pats) (by simp [go_sem]); have d3 := cell_below hb1 (p := ⟨w.heap.size, 3, none⟩) (x := .slice a_exprs x.exprs.length c_exprs) (by simp [go_sem]); have d4 := cell_below hb1 (p := ⟨w.heap.size, 4, none⟩) (x := .slice a_acts x.acts.length c_acts) (by simp [go_sem])) | (go_at_call 64; with_reducible refine (HJ.out _ (H1.out _ hB1)).mono ?_; rintro e w2 ⟨rfl, hb2⟩))
    all_goals go_ret
    all_goals refine ⟨ret_int ?_, hB1.trans (hb2.mono hB1.size)⟩
    · rw [HC.out, if_pos (by omega)]
    · rw [HC.out, if_neg (by omega)]

set_option maxHeartbeats 800000 in
theorem modes3_any (i : Nat) (x : Ru) (a_pats : Option Addr) (c_pats : Nat) (a_exprs : Option Addr) (c_exprs : Nat) (a_acts : Option Addr) (c_acts : Nat) {q : Option Nat} (w : World) (h_pats : PtsAt q w a_pats x.pats) (hs : ListLe Pt.le maxLen x.pats) (hp6 : x.pats.length ≤ 6) (ht6 : ∀ p ∈ x.pats, p.terms.length ≤ 6) (hpos : positives x.pats ≤ 3) :
    Calls Tryz.prog 35 #[.int .i64 (i : Int), .agg #[.string x.name, .int .i64 x.sal, .slice a_pats x.pats.length c_pats, .slice a_exprs x.exprs.length c_exprs, .slice a_acts x.acts.length c_acts]] w fun e w' =>
      e = .returned (.int .i64 (modeOf 2 i x)) ∧ Below w.heap.size w w' := by
  have HT := hideH (fun o => cost_any x a_pats c_pats a_exprs c_exprs a_acts c_acts (w.alloc o) (h_pats.below (ruBoxB w o)) hs hp6 ht6 hpos)
  have HM : Hid (modeOf 2 i x = byCost x) := show modeOf 2 i x = _ from rfl
  have HB0 := hideH (ruBoxB w)
  generalize modeOf 2 i x = M at HM ⊢
  generalize byCost x = T at HM HT
  clear h_pats hs ht6 hpos
  go_enter Tryz.func35, Tryz.ntmps35
  go_wp2_with (go_at_call 36; refine (HT.out _).mono ?_; rintro e w1 ⟨rfl, hb1⟩)
  go_ret
  exact ⟨ret_int HM.out.symm, (HB0.out _).trans (hb1.mono (HB0.out _).size)⟩
end Go.Proofs.YtajgedhmliekoaaGreat
