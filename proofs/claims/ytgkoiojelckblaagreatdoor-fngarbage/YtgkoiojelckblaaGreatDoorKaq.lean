/-
  OUR OWN TEXT. Sc3a0, Sc3a, Sc3b1, Sc3b2, Sc3b3, one behind the other.
-/
import Derived.Test.YtgkoiojelckblaaGreatDoorSc1m
import Derived.Test.YtgkoiojelckblaaGreatDoorSc2m
import Derived.Deep.RegionHeld3
import Derived.Deep.DrawnRows
import Derived.BigQuiet
namespace Go.Proofs.YtgkoiojelckblaaGreatDoor
open Go.RowKit
attribute [local go_sem ↓] Go.wp_at_zero Go.wp_at_succ

theorem span_first_le {es : List Ex} {S : List Sp} (h : Spans es S) {i : Nat} {s : Sp} (hi : S[i]? = some s) : s.1 ≤ es.length := by
  have := h.first_le i s hi
  have h1 : i < S.length := (List.getElem?_eq_some_iff.1 hi).1
  have := h.1
  omega

theorem below_drewN {B n : Nat} {a w : World} (h : Below B a w) : Below B a (w.drewN n) := ⟨h.os, h.tape, h.output, h.size, h.block⟩

theorem cell_setOther {w : World} {b g o i : Nat} {x : Value} (h : b ≠ g) : (w.setCell ⟨g, i, none⟩ x).cell? ⟨b, o, none⟩ = w.cell? ⟨b, o, none⟩ := by
  unfold World.cell?
  rw [Below.heap_setCell _ _ _ _ h]

/-- The loop over the arguments, by itself. -/
theorem argsGo_cons {S : List Sp} {x : Int} {r : List Int} {nx : Nat} : argsGo S (x :: r) nx = if decide (0 ≤ x) && (decide (x < (S.length : Int)) && decide ((S[x.toNat]?.getD (0, 0)).1 = nx)) then argsGo S r (x.toNat + 1) else none := rfl

end Go.Proofs.YtgkoiojelckblaaGreatDoor

namespace Go.Proofs.YtgkoiojelckblaaGreatDoor
open Go.RowKit
attribute [local go_sem ↓] Go.wp_at_zero Go.wp_at_succ

set_option maxHeartbeats 8000000 in
theorem l2GoodAct_no (x : Ru) (a_pats : Option Addr) (c_pats : Nat) (a_exprs : Option Addr) (c_exprs : Nat) (a_acts : Option Addr) (c_acts : Nat) (y : Ac) (a_args : Option Addr) (c_args : Nat) (pb nx : Nat) (S : List Sp) (w : World)
    (hcl : y.cls.size ≤ maxLen) (hal : y.args.length ≤ 1048576)
    (hf : w.frozen? ⟨pb, 0, none⟩ = false) (hpw : pb < w.heap.size) (hok : (fieldsOk y && decide (y.args.length ≤ 6)) = false) :
    Calls Tryz.prog 97 #[.agg #[.string x.name, .int .i64 x.sal, .slice a_pats x.pats.length c_pats, .slice a_exprs x.exprs.length c_exprs, .slice a_acts x.acts.length c_acts], .agg #[.int .i64 y.kind, .int .i64 y.k, .string y.cls, .slice a_args y.args.length c_args], .pointer (some ⟨pb, 0, none⟩)] w fun e w' =>
      e = .returned (.bool (gAc S y nx).isSome) ∧ Below pb w w' ∧ (∀ nx', gAc S y nx = some nx' → nx' ≤ 60 ∧ w'.cell? ⟨pb, 0, none⟩ = some (.int .i64 (nx' : Int))) ∧ w'.frozen? ⟨pb, 0, none⟩ = false := by
  have B0 : ∀ o o', Below pb w ((w.alloc o).alloc o') := fun o o' => ((Below.refl _ _).alloc (by omega) _).alloc (by simp; omega) _
  have B0' : ∀ o o', Below w.heap.size w ((w.alloc o).alloc o') := fun o o' => ((Below.refl _ _).alloc (Nat.le_refl _) _).alloc (by simp) _
  have FZ : ∀ o o', ((w.alloc o).alloc o').frozen? ⟨pb, 0, none⟩ = false := fun o o' => by rw [(bcell (B0' o o')).2 pb 0 hpw]; exact hf
  obtain ⟨G⟩ : Nonempty (Hid (gAc S y nx = if fieldsOk y && decide (y.args.length ≤ 6) then argsGo S y.args nx else none)) := ⟨rfl⟩
  have HF : Hid ((fieldsOk y && decide (y.args.length ≤ 6)) = false) := hok
  by_cases hn : 6 < y.args.length
  · have hn' : (6 : Int) < (y.args.length : Int) := by omega
    by_cases k1 : y.kind < 1
    · go_enter Tryz.func97, Tryz.ntmps97
      go_wp2_with (go_at_call 150; refine (l2GoodCls_any y.cls _ hcl).mono ?_; rintro e w' ⟨rfl, rfl⟩)
      all_goals go_ret
      all_goals exact ⟨ret_bool (by rw [G.out, HF.out]; rfl), B0 _ _, fun nx' h => (by rw [G.out, HF.out] at h; cases h), FZ _ _⟩
    · by_cases k4 : 4 < y.kind
      · go_enter Tryz.func97, Tryz.ntmps97
        go_wp2_with (go_at_call 150; refine (l2GoodCls_any y.cls _ hcl).mono ?_; rintro e w' ⟨rfl, rfl⟩)
        all_goals go_ret
        all_goals exact ⟨ret_bool (by rw [G.out, HF.out]; rfl), B0 _ _, fun nx' h => (by rw [G.out, HF.out] at h; cases h), FZ _ _⟩
      · go_enter Tryz.func97, Tryz.ntmps97
        go_wp2_with (go_at_call 150; refine (l2GoodCls_any y.cls _ hcl).mono ?_; rintro e w' ⟨rfl, rfl⟩)
        all_goals go_ret
        all_goals exact ⟨ret_bool (by rw [G.out, HF.out]; rfl), B0 _ _, fun nx' h => (by rw [G.out, HF.out] at h; cases h), FZ _ _⟩
  have hn' : ¬ (6 : Int) < (y.args.length : Int) := by omega
  by_cases k1 : y.kind = 1
  · cases hg : gCls y.cls
    · go_enter Tryz.func97, Tryz.ntmps97
      go_wp2_with (go_at_call 150; refine (l2GoodCls_any y.cls _ hcl).mono ?_; rintro e w' ⟨rfl, rfl⟩)
      all_goals go_ret
      all_goals exact ⟨ret_bool (by rw [G.out, HF.out]; rfl), B0 _ _, fun nx' h => (by rw [G.out, HF.out] at h; cases h), FZ _ _⟩
    · by_cases k0 : y.k = 0
      · exfalso
        simp [fieldsOk, k1, hg, k0] at hok
        omega
      · go_enter Tryz.func97, Tryz.ntmps97
        go_wp2_with (go_at_call 150; refine (l2GoodCls_any y.cls _ hcl).mono ?_; rintro e w' ⟨rfl, rfl⟩)
        all_goals go_ret
        all_goals exact ⟨ret_bool (by rw [G.out, HF.out]; rfl), B0 _ _, fun nx' h => (by rw [G.out, HF.out] at h; cases h), FZ _ _⟩
  by_cases k2 : y.kind = 2
  · by_cases ha : 0 < y.args.length
    · have ha' : (0 : Int) < (y.args.length : Int) := by omega
      go_enter Tryz.func97, Tryz.ntmps97
      go_wp2_with (go_at_call 150; refine (l2GoodCls_any y.cls _ hcl).mono ?_; rintro e w' ⟨rfl, rfl⟩)
      all_goals go_ret
      all_goals exact ⟨ret_bool (by rw [G.out, HF.out]; rfl), B0 _ _, fun nx' h => (by rw [G.out, HF.out] at h; cases h), FZ _ _⟩
    · have ha' : ¬ (0 : Int) < (y.args.length : Int) := by omega
      cases he : y.cls.toList.isEmpty
      · go_enter Tryz.func97, Tryz.ntmps97
        go_wp2_with (go_at_call 150; refine (l2GoodCls_any y.cls _ hcl).mono ?_; rintro e w' ⟨rfl, rfl⟩)
        all_goals go_ret
        all_goals exact ⟨ret_bool (by rw [G.out, HF.out]; rfl), B0 _ _, fun nx' h => (by rw [G.out, HF.out] at h; cases h), FZ _ _⟩
      · by_cases b1 : y.k < -1000000
        · go_enter Tryz.func97, Tryz.ntmps97
          go_wp2_with (go_at_call 150; refine (l2GoodCls_any y.cls _ hcl).mono ?_; rintro e w' ⟨rfl, rfl⟩)
          all_goals go_ret
          all_goals exact ⟨ret_bool (by rw [G.out, HF.out]; rfl), B0 _ _, fun nx' h => (by rw [G.out, HF.out] at h; cases h), FZ _ _⟩
        · by_cases b2 : 1000000 < y.k
          · go_enter Tryz.func97, Tryz.ntmps97
            go_wp2_with (go_at_call 150; refine (l2GoodCls_any y.cls _ hcl).mono ?_; rintro e w' ⟨rfl, rfl⟩)
            all_goals go_ret
            all_goals exact ⟨ret_bool (by rw [G.out, HF.out]; rfl), B0 _ _, fun nx' h => (by rw [G.out, HF.out] at h; cases h), FZ _ _⟩
          · exfalso
            have e0 : y.args = [] := List.eq_nil_of_length_eq_zero (by omega)
            have he' : y.cls.toList = [] := by simpa using he
            simp [fieldsOk, k2, isE, he', e0, kOk] at hok
            omega
  by_cases k3 : y.kind = 3
  · cases he : y.cls.toList.isEmpty
    · go_enter Tryz.func97, Tryz.ntmps97
      go_wp2_with (go_at_call 150; refine (l2GoodCls_any y.cls _ hcl).mono ?_; rintro e w' ⟨rfl, rfl⟩)
      all_goals go_ret
      all_goals exact ⟨ret_bool (by rw [G.out, HF.out]; rfl), B0 _ _, fun nx' h => (by rw [G.out, HF.out] at h; cases h), FZ _ _⟩
    · by_cases b1 : y.k < -1000000
      · go_enter Tryz.func97, Tryz.ntmps97
        go_wp2_with (go_at_call 150; refine (l2GoodCls_any y.cls _ hcl).mono ?_; rintro e w' ⟨rfl, rfl⟩)
        all_goals go_ret
        all_goals exact ⟨ret_bool (by rw [G.out, HF.out]; rfl), B0 _ _, fun nx' h => (by rw [G.out, HF.out] at h; cases h), FZ _ _⟩
      · by_cases b2 : 1000000 < y.k
        · go_enter Tryz.func97, Tryz.ntmps97
          go_wp2_with (go_at_call 150; refine (l2GoodCls_any y.cls _ hcl).mono ?_; rintro e w' ⟨rfl, rfl⟩)
          all_goals go_ret
          all_goals exact ⟨ret_bool (by rw [G.out, HF.out]; rfl), B0 _ _, fun nx' h => (by rw [G.out, HF.out] at h; cases h), FZ _ _⟩
        · exfalso
          have he' : y.cls.toList = [] := by simpa using he
          simp [fieldsOk, k3, isE, he', kOk] at hok
          omega
  by_cases k4 : y.kind = 4
  · by_cases ha : 0 < y.args.length
    · have ha' : (0 : Int) < (y.args.length : Int) := by omega
      go_enter Tryz.func97, Tryz.ntmps97
      go_wp2_with (go_at_call 150; refine (l2GoodCls_any y.cls _ hcl).mono ?_; rintro e w' ⟨rfl, rfl⟩)
      all_goals go_ret
      all_goals exact ⟨ret_bool (by rw [G.out, HF.out]; rfl), B0 _ _, fun nx' h => (by rw [G.out, HF.out] at h; cases h), FZ _ _⟩
    · have ha' : ¬ (0 : Int) < (y.args.length : Int) := by omega
      cases he : y.cls.toList.isEmpty
      · go_enter Tryz.func97, Tryz.ntmps97
        go_wp2_with (go_at_call 150; refine (l2GoodCls_any y.cls _ hcl).mono ?_; rintro e w' ⟨rfl, rfl⟩)
        all_goals go_ret
        all_goals exact ⟨ret_bool (by rw [G.out, HF.out]; rfl), B0 _ _, fun nx' h => (by rw [G.out, HF.out] at h; cases h), FZ _ _⟩
      · by_cases b1 : y.k = 0
        · exfalso
          have e0 : y.args = [] := List.eq_nil_of_length_eq_zero (by omega)
          have he' : y.cls.toList = [] := by simpa using he
          simp [fieldsOk, k4, isE, he', e0, b1] at hok
        · go_enter Tryz.func97, Tryz.ntmps97
          go_wp2_with (go_at_call 150; refine (l2GoodCls_any y.cls _ hcl).mono ?_; rintro e w' ⟨rfl, rfl⟩)
          all_goals go_ret
          all_goals exact ⟨ret_bool (by rw [G.out, HF.out]; rfl), B0 _ _, fun nx' h => (by rw [G.out, HF.out] at h; cases h), FZ _ _⟩
  by_cases k5 : y.kind < 1
  · go_enter Tryz.func97, Tryz.ntmps97
    go_wp2_with (go_at_call 150; refine (l2GoodCls_any y.cls _ hcl).mono ?_; rintro e w' ⟨rfl, rfl⟩)
    all_goals go_ret
    all_goals exact ⟨ret_bool (by rw [G.out, HF.out]; rfl), B0 _ _, fun nx' h => (by rw [G.out, HF.out] at h; cases h), FZ _ _⟩
  · have k6 : 4 < y.kind := by omega
    go_enter Tryz.func97, Tryz.ntmps97
    go_wp2_with (go_at_call 150; refine (l2GoodCls_any y.cls _ hcl).mono ?_; rintro e w' ⟨rfl, rfl⟩)
    all_goals go_ret
    all_goals exact ⟨ret_bool (by rw [G.out, HF.out]; rfl), B0 _ _, fun nx' h => (by rw [G.out, HF.out] at h; cases h), FZ _ _⟩
end Go.Proofs.YtgkoiojelckblaaGreatDoor

namespace Go.Proofs.YtgkoiojelckblaaGreatDoor
open Go.RowKit
attribute [local go_sem ↓] Go.wp_at_zero Go.wp_at_succ

set_option maxHeartbeats 4000000 in
theorem l2GoodAct_ok1 (x : Ru) (a_pats : Option Addr) (c_pats : Nat) (a_exprs : Option Addr) (c_exprs : Nat) (a_acts : Option Addr) (c_acts : Nat) (y : Ac) (a_args : Option Addr) (c_args : Nat) (pb nx : Nat) (S : List Sp) {q : Option Nat} (w0 w : World)
    (hb0 : Below w0.heap.size w0 w) (h_exprs : ExsAt q w0 a_exprs x.exprs) (h_args : IntsAt q w0 a_args y.args) (hS : Spans x.exprs S) (hSl : S.length = x.exprs.length) (hle : x.exprs.length ≤ 60) (hcl : y.cls.size ≤ maxLen) (hal : y.args.length ≤ 1048576)
    (hp : w.cell? ⟨pb, 0, none⟩ = some (.int .i64 (nx : Int))) (hf : w.frozen? ⟨pb, 0, none⟩ = false) (hpb : w0.heap.size ≤ pb) (hpw : pb < w.heap.size) (hnx : nx ≤ 60) (hok : (fieldsOk y && decide (y.args.length ≤ 6)) = true) (k1 : y.kind = 1) (hg : gCls y.cls = true) (k0 : y.k = 0) :
    Calls Tryz.prog 97 #[.agg #[.string x.name, .int .i64 x.sal, .slice a_pats x.pats.length c_pats, .slice a_exprs x.exprs.length c_exprs, .slice a_acts x.acts.length c_acts], .agg #[.int .i64 y.kind, .int .i64 y.k, .string y.cls, .slice a_args y.args.length c_args], .pointer (some ⟨pb, 0, none⟩)] w fun e w' =>
      e = .returned (.bool (gAc S y nx).isSome) ∧ Below pb w w' ∧ (∀ nx', gAc S y nx = some nx' → nx' ≤ 60 ∧ w'.cell? ⟨pb, 0, none⟩ = some (.int .i64 (nx' : Int))) ∧ w'.frozen? ⟨pb, 0, none⟩ = false := by
  have B0 : ∀ o o', Below pb w ((w.alloc o).alloc o') := fun o o' => ((Below.refl _ _).alloc (by omega) _).alloc (by simp; omega) _
  have B0' : ∀ o o', Below w.heap.size w ((w.alloc o).alloc o') := fun o o' => ((Below.refl _ _).alloc (Nat.le_refl _) _).alloc (by simp) _
  have FZ : ∀ o o', ((w.alloc o).alloc o').frozen? ⟨pb, 0, none⟩ = false := fun o o' => by rw [(bcell (B0' o o')).2 pb 0 hpw]; exact hf
  obtain ⟨G⟩ : Nonempty (Hid (gAc S y nx = if fieldsOk y && decide (y.args.length ≤ 6) then argsGo S y.args nx else none)) := ⟨rfl⟩
  have hok' : (fieldsOk y && decide (y.args.length ≤ 6)) = true := hok
  have HF : Hid ((fieldsOk y && decide (y.args.length ≤ 6)) = true) := hok'
  simp only [Bool.and_eq_true, decide_eq_true_eq] at hok'
  obtain ⟨_, hn⟩ := hok'
  have hn' : ¬ (6 : Int) < (y.args.length : Int) := by omega
  obtain ⟨HV⟩ : Nonempty (Hid (ExsAt q w0 a_exprs x.exprs ∧ IntsAt q w0 a_args y.args)) := ⟨⟨h_exprs, h_args⟩⟩
  clear hok
  go_enter Tryz.func97, Tryz.ntmps97
  go_wp2_with (go_at_call 150; refine (l2GoodCls_any y.cls _ hcl).mono ?_; rintro e w' ⟨rfl, rfl⟩)
  go_loopw [90] (fun i wr => ∃ (k nk : Nat), k ≤ y.args.length ∧ i = .int .i64 k ∧ nk ≤ 60 ∧ argsGo S y.args nx = argsGo S (y.args.drop k) nk ∧ wr.cell? ⟨pb, 0, none⟩ = some (.int .i64 (nk : Int)) ∧ wr.frozen? ⟨pb, 0, none⟩ = false ∧ wr.cell? ⟨w.heap.size, 3, none⟩ = some (.slice a_exprs x.exprs.length c_exprs) ∧ Below pb w wr) (fun i _ => y.args.length - (intOf i).toNat)
  case atStart => exact ⟨0, nx, by omega, rfl, hnx, rfl, by rw [(bcell (B0' _ _)).1 pb 0 hpw]; exact hp, FZ _ _, by simp [go_sem], B0 _ _⟩
  case round =>
    obtain ⟨k, nk, hk, rfl, hnk, hG, hp1, hf1, hx1, hb1⟩ := hrel
    have HG : Hid (argsGo S y.args nx = argsGo S (y.args.drop k) nk) := hG
    clear hG
    have hpr : pb < wr.heap.size := Nat.lt_of_lt_of_le hpw hb1.size
    have hB : Below w0.heap.size w0 wr := hb0.trans (hb1.mono hpb)
    by_cases hkl : k < y.args.length
    · obtain ⟨v, hvk⟩ : ∃ v, y.args[k]? = some v := ⟨y.args[k], by simp [hkl]⟩
      have HA := HV.out.2.below hB
      have HE := HV.out.1.below hB
      obtain ⟨b, o, ea, hq, c0⟩ := HA.get hvk
      subst ea
      have HD : Hid (y.args.drop k = v :: y.args.drop (k + 1)) := drop_cons hvk
      have z0 : (0 : Int) ≤ (k : Int) := by omega
      have z1 : (k : Int) < (y.args.length : Int) := by omega
      have B1 : Below wr.heap.size wr wr.drew := (Below.refl _ _).drew
      by_cases v0 : v < 0
      · have HN : Hid (gAc S y nx = none) := show gAc S y nx = none from by
          rw [G.out, HF.out, if_pos rfl, HG.out, HD.out, argsGo_cons, decide_eq_false (by omega)]
          rfl
        go_wp2
        go_quiet (fail)
        go_wp2
        go_ret
        exact ⟨ret_bool (by rw [HN.out]; rfl), below_drewN hb1, fun nx' h => (by rw [HN.out] at h; cases h), hf1⟩
      · by_cases v1 : (x.exprs.length : Int) ≤ v
        · have HN : Hid (gAc S y nx = none) := show gAc S y nx = none from by
            rw [G.out, HF.out, if_pos rfl, HG.out, HD.out, argsGo_cons, decide_eq_false (p := v < (S.length : Int)) (by omega)]
            simp
          have d0 : decide (v < 0) = false := decide_eq_false v0
          go_wp2
          go_quiet (fail)
          go_wp2
          go_ret
          exact ⟨ret_bool (by rw [HN.out]; rfl), below_drewN hb1, fun nx' h => (by rw [HN.out] at h; cases h), hf1⟩
        · obtain ⟨vn, rfl⟩ := Int.eq_ofNat_of_zero_le (show 0 ≤ v by omega)
          have hvn : vn < S.length := by omega
          obtain ⟨s, hs⟩ : ∃ s, S[vn]? = some s := ⟨S[vn], by simp⟩
          have hsl := span_first_le hS hs
          cases e3 : ((s.1 : Int) != (nk : Int))
          · have HN : Hid (gAc S y nx = argsGo S (y.args.drop (k + 1)) (vn + 1)) := show gAc S y nx = _ from by
              have : s.1 = nk := by (simp at e3; omega)
              rw [G.out, HF.out, if_pos rfl, HG.out, HD.out, argsGo_cons, decide_eq_true (by omega), decide_eq_true (by omega), Int.toNat_natCast, hs, Option.getD_some, decide_eq_true this]
              rfl
            have HM : Hid (argsGo S y.args nx = argsGo S (y.args.drop (k + 1)) (vn + 1)) := show argsGo S y.args nx = _ from by
              have := HN.out
              rw [G.out, HF.out, if_pos rfl] at this
              exact this
            have d0 : decide ((vn : Int) < 0) = false := decide_eq_false (by omega)
            have d1 : decide ((x.exprs.length : Int) ≤ (vn : Int)) = false := decide_eq_false (by omega)
            have d2 : decide (x.exprs.length ≤ vn) = false := decide_eq_false (by omega)
            go_wp2
            go_quiet (first | (go_at_call 99; refine Calls.quiet_of_same (l2First_any a_exprs c_exprs x.exprs S vn s _ (HE.below ?_) hS hs); exact below_drewN (Below.refl _ _)))
            go_wp2
            go_roundw
            case rel =>
              refine ⟨k + 1, vn + 1, by omega, by go_num, by omega, HM.out, ?_, ?_, ?_, ?_⟩
              · have hp2 : (wr.drewN nq).cell? ⟨pb, 0, none⟩ = some (.int .i64 (nk : Int)) := hp1
                simp [go_sem, hp2]
              · have hf2 : (wr.drewN nq).frozen? ⟨pb, 0, none⟩ = false := hf1
                simp [go_sem, hf2]
              · have hx2 : (wr.drewN nq).cell? ⟨w.heap.size, 3, none⟩ = some (.slice a_exprs x.exprs.length c_exprs) := hx1
                have hne : w.heap.size ≠ pb := by omega
                rw [cell_setOther hne]
                exact hx2
              · exact (below_drewN hb1).setCell (Nat.le_refl _) _
            case measure => simp [intOf]; omega
          · have HN : Hid (gAc S y nx = none) := show gAc S y nx = none from by
              have : ¬ s.1 = nk := by (simp at e3; omega)
              rw [G.out, HF.out, if_pos rfl, HG.out, HD.out, argsGo_cons, Int.toNat_natCast, hs, Option.getD_some, decide_eq_false this]
              simp
            have d0 : decide ((vn : Int) < 0) = false := decide_eq_false (by omega)
            have d1 : decide ((x.exprs.length : Int) ≤ (vn : Int)) = false := decide_eq_false (by omega)
            have d2 : decide (x.exprs.length ≤ vn) = false := decide_eq_false (by omega)
            go_wp2
            go_quiet (first | (go_at_call 99; refine Calls.quiet_of_same (l2First_any a_exprs c_exprs x.exprs S vn s _ (HE.below ?_) hS hs); exact below_drewN (Below.refl _ _)))
            go_wp2
            go_ret
            exact ⟨ret_bool (by rw [HN.out]; rfl), below_drewN hb1, fun nx' h => (by rw [HN.out] at h; cases h), hf1⟩
    · go_wp2
      go_ret
      have e0 : y.args.drop k = [] := List.drop_eq_nil_of_le (by omega)
      have HN : gAc S y nx = some nk := by
        rw [G.out, HF.out, if_pos rfl, HG.out, e0]
        rfl
      exact ⟨ret_bool (by rw [HN]; rfl), hb1, fun nx' h => (by rw [HN] at h; injection h with h; subst h; exact ⟨hnk, hp1⟩), hf1⟩
end Go.Proofs.YtgkoiojelckblaaGreatDoor

namespace Go.Proofs.YtgkoiojelckblaaGreatDoor
open Go.RowKit
attribute [local go_sem ↓] Go.wp_at_zero Go.wp_at_succ

set_option maxHeartbeats 4000000 in
theorem l2GoodAct_ok2 (x : Ru) (a_pats : Option Addr) (c_pats : Nat) (a_exprs : Option Addr) (c_exprs : Nat) (a_acts : Option Addr) (c_acts : Nat) (y : Ac) (a_args : Option Addr) (c_args : Nat) (pb nx : Nat) (S : List Sp) {q : Option Nat} (w0 w : World)
    (hb0 : Below w0.heap.size w0 w) (h_exprs : ExsAt q w0 a_exprs x.exprs) (h_args : IntsAt q w0 a_args y.args) (_hS : Spans x.exprs S) (_hSl : S.length = x.exprs.length) (_hle : x.exprs.length ≤ 60) (_hcl : y.cls.size ≤ maxLen) (hal : y.args.length ≤ 1048576)
    (hp : w.cell? ⟨pb, 0, none⟩ = some (.int .i64 (nx : Int))) (hf : w.frozen? ⟨pb, 0, none⟩ = false) (hpb : w0.heap.size ≤ pb) (hpw : pb < w.heap.size) (hnx : nx ≤ 60) (hok : (fieldsOk y && decide (y.args.length ≤ 6)) = true) (k2 : y.kind = 2) (he : y.cls.toList.isEmpty = true) (b1 : ¬ y.k < -1000000) (b2 : ¬ 1000000 < y.k) (ha : ¬ (0 : Int) < (y.args.length : Int)) :
    Calls Tryz.prog 97 #[.agg #[.string x.name, .int .i64 x.sal, .slice a_pats x.pats.length c_pats, .slice a_exprs x.exprs.length c_exprs, .slice a_acts x.acts.length c_acts], .agg #[.int .i64 y.kind, .int .i64 y.k, .string y.cls, .slice a_args y.args.length c_args], .pointer (some ⟨pb, 0, none⟩)] w fun e w' =>
      e = .returned (.bool (gAc S y nx).isSome) ∧ Below pb w w' ∧ (∀ nx', gAc S y nx = some nx' → nx' ≤ 60 ∧ w'.cell? ⟨pb, 0, none⟩ = some (.int .i64 (nx' : Int))) ∧ w'.frozen? ⟨pb, 0, none⟩ = false := by
  have B0 : ∀ o o', Below pb w ((w.alloc o).alloc o') := fun o o' => ((Below.refl _ _).alloc (by omega) _).alloc (by simp; omega) _
  have B0' : ∀ o o', Below w.heap.size w ((w.alloc o).alloc o') := fun o o' => ((Below.refl _ _).alloc (Nat.le_refl _) _).alloc (by simp) _
  have FZ : ∀ o o', ((w.alloc o).alloc o').frozen? ⟨pb, 0, none⟩ = false := fun o o' => by rw [(bcell (B0' o o')).2 pb 0 hpw]; exact hf
  obtain ⟨G⟩ : Nonempty (Hid (gAc S y nx = if fieldsOk y && decide (y.args.length ≤ 6) then argsGo S y.args nx else none)) := ⟨rfl⟩
  have hok' : (fieldsOk y && decide (y.args.length ≤ 6)) = true := hok
  have HF : Hid ((fieldsOk y && decide (y.args.length ≤ 6)) = true) := hok'
  simp only [Bool.and_eq_true, decide_eq_true_eq] at hok'
  obtain ⟨_, hn⟩ := hok'
  have hn' : ¬ (6 : Int) < (y.args.length : Int) := by omega
  obtain ⟨HV⟩ : Nonempty (Hid (ExsAt q w0 a_exprs x.exprs ∧ IntsAt q w0 a_args y.args)) := ⟨⟨h_exprs, h_args⟩⟩
  clear hok
  go_enter Tryz.func97, Tryz.ntmps97
  go_wp2_with (go_at_call 150; refine (l2GoodCls_any y.cls _ _hcl).mono ?_; rintro e w' ⟨rfl, rfl⟩)
  go_loopw [90] (fun i wr => ∃ (k nk : Nat), k ≤ y.args.length ∧ i = .int .i64 k ∧ nk ≤ 60 ∧ argsGo S y.args nx = argsGo S (y.args.drop k) nk ∧ wr.cell? ⟨pb, 0, none⟩ = some (.int .i64 (nk : Int)) ∧ wr.frozen? ⟨pb, 0, none⟩ = false ∧ wr.cell? ⟨w.heap.size, 3, none⟩ = some (.slice a_exprs x.exprs.length c_exprs) ∧ Below pb w wr) (fun i _ => y.args.length - (intOf i).toNat)
  case atStart => exact ⟨0, nx, by omega, rfl, hnx, rfl, by rw [(bcell (B0' _ _)).1 pb 0 hpw]; exact hp, FZ _ _, by simp [go_sem], B0 _ _⟩
  case round =>
    obtain ⟨k, nk, hk, rfl, hnk, hG, hp1, hf1, hx1, hb1⟩ := hrel
    have HG : Hid (argsGo S y.args nx = argsGo S (y.args.drop k) nk) := hG
    clear hG
    have hpr : pb < wr.heap.size := Nat.lt_of_lt_of_le hpw hb1.size
    have hB : Below w0.heap.size w0 wr := hb0.trans (hb1.mono hpb)
    have hkl : ¬ k < y.args.length := by omega
    go_wp2
    go_ret
    have e0 : y.args.drop k = [] := List.drop_eq_nil_of_le (by omega)
    have HN : gAc S y nx = some nk := by
      rw [G.out, HF.out, if_pos rfl, HG.out, e0]
      rfl
    exact ⟨ret_bool (by rw [HN]; rfl), hb1, fun nx' h => (by rw [HN] at h; injection h with h; subst h; exact ⟨hnk, hp1⟩), hf1⟩

set_option maxHeartbeats 4000000 in
theorem l2GoodAct_ok4 (x : Ru) (a_pats : Option Addr) (c_pats : Nat) (a_exprs : Option Addr) (c_exprs : Nat) (a_acts : Option Addr) (c_acts : Nat) (y : Ac) (a_args : Option Addr) (c_args : Nat) (pb nx : Nat) (S : List Sp) {q : Option Nat} (w0 w : World)
    (hb0 : Below w0.heap.size w0 w) (h_exprs : ExsAt q w0 a_exprs x.exprs) (h_args : IntsAt q w0 a_args y.args) (_hS : Spans x.exprs S) (_hSl : S.length = x.exprs.length) (_hle : x.exprs.length ≤ 60) (_hcl : y.cls.size ≤ maxLen) (hal : y.args.length ≤ 1048576)
    (hp : w.cell? ⟨pb, 0, none⟩ = some (.int .i64 (nx : Int))) (hf : w.frozen? ⟨pb, 0, none⟩ = false) (hpb : w0.heap.size ≤ pb) (hpw : pb < w.heap.size) (hnx : nx ≤ 60) (hok : (fieldsOk y && decide (y.args.length ≤ 6)) = true) (k4 : y.kind = 4) (he : y.cls.toList.isEmpty = true) (k0 : y.k = 0) (ha : ¬ (0 : Int) < (y.args.length : Int)) :
    Calls Tryz.prog 97 #[.agg #[.string x.name, .int .i64 x.sal, .slice a_pats x.pats.length c_pats, .slice a_exprs x.exprs.length c_exprs, .slice a_acts x.acts.length c_acts], .agg #[.int .i64 y.kind, .int .i64 y.k, .string y.cls, .slice a_args y.args.length c_args], .pointer (some ⟨pb, 0, none⟩)] w fun e w' =>
      e = .returned (.bool (gAc S y nx).isSome) ∧ Below pb w w' ∧ (∀ nx', gAc S y nx = some nx' → nx' ≤ 60 ∧ w'.cell? ⟨pb, 0, none⟩ = some (.int .i64 (nx' : Int))) ∧ w'.frozen? ⟨pb, 0, none⟩ = false := by
  have B0 : ∀ o o', Below pb w ((w.alloc o).alloc o') := fun o o' => ((Below.refl _ _).alloc (by omega) _).alloc (by simp; omega) _
  have B0' : ∀ o o', Below w.heap.size w ((w.alloc o).alloc o') := fun o o' => ((Below.refl _ _).alloc (Nat.le_refl _) _).alloc (by simp) _
  have FZ : ∀ o o', ((w.alloc o).alloc o').frozen? ⟨pb, 0, none⟩ = false := fun o o' => by rw [(bcell (B0' o o')).2 pb 0 hpw]; exact hf
  obtain ⟨G⟩ : Nonempty (Hid (gAc S y nx = if fieldsOk y && decide (y.args.length ≤ 6) then argsGo S y.args nx else none)) := ⟨rfl⟩
  have hok' : (fieldsOk y && decide (y.args.length ≤ 6)) = true := hok
  have HF : Hid ((fieldsOk y && decide (y.args.length ≤ 6)) = true) := hok'
  simp only [Bool.and_eq_true, decide_eq_true_eq] at hok'
  obtain ⟨_, hn⟩ := hok'
  have hn' : ¬ (6 : Int) < (y.args.length : Int) := by omega
  obtain ⟨HV⟩ : Nonempty (Hid (ExsAt q w0 a_exprs x.exprs ∧ IntsAt q w0 a_args y.args)) := ⟨⟨h_exprs, h_args⟩⟩
  clear hok
  go_enter Tryz.func97, Tryz.ntmps97
  go_wp2_with (go_at_call 150; refine (l2GoodCls_any y.cls _ _hcl).mono ?_; rintro e w' ⟨rfl, rfl⟩)
  go_loopw [90] (fun i wr => ∃ (k nk : Nat), k ≤ y.args.length ∧ i = .int .i64 k ∧ nk ≤ 60 ∧ argsGo S y.args nx = argsGo S (y.args.drop k) nk ∧ wr.cell? ⟨pb, 0, none⟩ = some (.int .i64 (nk : Int)) ∧ wr.frozen? ⟨pb, 0, none⟩ = false ∧ wr.cell? ⟨w.heap.size, 3, none⟩ = some (.slice a_exprs x.exprs.length c_exprs) ∧ Below pb w wr) (fun i _ => y.args.length - (intOf i).toNat)
  case atStart => exact ⟨0, nx, by omega, rfl, hnx, rfl, by rw [(bcell (B0' _ _)).1 pb 0 hpw]; exact hp, FZ _ _, by simp [go_sem], B0 _ _⟩
  case round =>
    obtain ⟨k, nk, hk, rfl, hnk, hG, hp1, hf1, hx1, hb1⟩ := hrel
    have HG : Hid (argsGo S y.args nx = argsGo S (y.args.drop k) nk) := hG
    clear hG
    have hpr : pb < wr.heap.size := Nat.lt_of_lt_of_le hpw hb1.size
    have hB : Below w0.heap.size w0 wr := hb0.trans (hb1.mono hpb)
    have hkl : ¬ k < y.args.length := by omega
    go_wp2
    go_ret
    have e0 : y.args.drop k = [] := List.drop_eq_nil_of_le (by omega)
    have HN : gAc S y nx = some nk := by
      rw [G.out, HF.out, if_pos rfl, HG.out, e0]
      rfl
    exact ⟨ret_bool (by rw [HN]; rfl), hb1, fun nx' h => (by rw [HN] at h; injection h with h; subst h; exact ⟨hnk, hp1⟩), hf1⟩
end Go.Proofs.YtgkoiojelckblaaGreatDoor

namespace Go.Proofs.YtgkoiojelckblaaGreatDoor
open Go.RowKit
attribute [local go_sem ↓] Go.wp_at_zero Go.wp_at_succ

set_option maxHeartbeats 4000000 in
theorem l2GoodAct_ok3 (x : Ru) (a_pats : Option Addr) (c_pats : Nat) (a_exprs : Option Addr) (c_exprs : Nat) (a_acts : Option Addr) (c_acts : Nat) (y : Ac) (a_args : Option Addr) (c_args : Nat) (pb nx : Nat) (S : List Sp) {q : Option Nat} (w0 w : World)
    (hb0 : Below w0.heap.size w0 w) (h_exprs : ExsAt q w0 a_exprs x.exprs) (h_args : IntsAt q w0 a_args y.args) (hS : Spans x.exprs S) (hSl : S.length = x.exprs.length) (hle : x.exprs.length ≤ 60) (_hcl : y.cls.size ≤ maxLen) (hal : y.args.length ≤ 1048576)
    (hp : w.cell? ⟨pb, 0, none⟩ = some (.int .i64 (nx : Int))) (hf : w.frozen? ⟨pb, 0, none⟩ = false) (hpb : w0.heap.size ≤ pb) (hpw : pb < w.heap.size) (hnx : nx ≤ 60) (hok : (fieldsOk y && decide (y.args.length ≤ 6)) = true) (k3 : y.kind = 3) (he : y.cls.toList.isEmpty = true) (b1 : ¬ y.k < -1000000) (b2 : ¬ 1000000 < y.k) :
    Calls Tryz.prog 97 #[.agg #[.string x.name, .int .i64 x.sal, .slice a_pats x.pats.length c_pats, .slice a_exprs x.exprs.length c_exprs, .slice a_acts x.acts.length c_acts], .agg #[.int .i64 y.kind, .int .i64 y.k, .string y.cls, .slice a_args y.args.length c_args], .pointer (some ⟨pb, 0, none⟩)] w fun e w' =>
      e = .returned (.bool (gAc S y nx).isSome) ∧ Below pb w w' ∧ (∀ nx', gAc S y nx = some nx' → nx' ≤ 60 ∧ w'.cell? ⟨pb, 0, none⟩ = some (.int .i64 (nx' : Int))) ∧ w'.frozen? ⟨pb, 0, none⟩ = false := by
  have B0 : ∀ o o', Below pb w ((w.alloc o).alloc o') := fun o o' => ((Below.refl _ _).alloc (by omega) _).alloc (by simp; omega) _
  have B0' : ∀ o o', Below w.heap.size w ((w.alloc o).alloc o') := fun o o' => ((Below.refl _ _).alloc (Nat.le_refl _) _).alloc (by simp) _
  have FZ : ∀ o o', ((w.alloc o).alloc o').frozen? ⟨pb, 0, none⟩ = false := fun o o' => by rw [(bcell (B0' o o')).2 pb 0 hpw]; exact hf
  obtain ⟨G⟩ : Nonempty (Hid (gAc S y nx = if fieldsOk y && decide (y.args.length ≤ 6) then argsGo S y.args nx else none)) := ⟨rfl⟩
  have hok' : (fieldsOk y && decide (y.args.length ≤ 6)) = true := hok
  have HF : Hid ((fieldsOk y && decide (y.args.length ≤ 6)) = true) := hok'
  simp only [Bool.and_eq_true, decide_eq_true_eq] at hok'
  obtain ⟨_, hn⟩ := hok'
  have hn' : ¬ (6 : Int) < (y.args.length : Int) := by omega
  obtain ⟨HV⟩ : Nonempty (Hid (ExsAt q w0 a_exprs x.exprs ∧ IntsAt q w0 a_args y.args)) := ⟨⟨h_exprs, h_args⟩⟩
  clear hok
  go_enter Tryz.func97, Tryz.ntmps97
  go_wp2_with (go_at_call 150; refine (l2GoodCls_any y.cls _ _hcl).mono ?_; rintro e w' ⟨rfl, rfl⟩)
  go_loopw [90] (fun i wr => ∃ (k nk : Nat), k ≤ y.args.length ∧ i = .int .i64 k ∧ nk ≤ 60 ∧ argsGo S y.args nx = argsGo S (y.args.drop k) nk ∧ wr.cell? ⟨pb, 0, none⟩ = some (.int .i64 (nk : Int)) ∧ wr.frozen? ⟨pb, 0, none⟩ = false ∧ wr.cell? ⟨w.heap.size, 3, none⟩ = some (.slice a_exprs x.exprs.length c_exprs) ∧ Below pb w wr) (fun i _ => y.args.length - (intOf i).toNat)
  case atStart => exact ⟨0, nx, by omega, rfl, hnx, rfl, by rw [(bcell (B0' _ _)).1 pb 0 hpw]; exact hp, FZ _ _, by simp [go_sem], B0 _ _⟩
  case round =>
    obtain ⟨k, nk, hk, rfl, hnk, hG, hp1, hf1, hx1, hb1⟩ := hrel
    have HG : Hid (argsGo S y.args nx = argsGo S (y.args.drop k) nk) := hG
    clear hG
    have hpr : pb < wr.heap.size := Nat.lt_of_lt_of_le hpw hb1.size
    have hB : Below w0.heap.size w0 wr := hb0.trans (hb1.mono hpb)
    by_cases hkl : k < y.args.length
    · obtain ⟨v, hvk⟩ : ∃ v, y.args[k]? = some v := ⟨y.args[k], by simp [hkl]⟩
      have HA := HV.out.2.below hB
      have HE := HV.out.1.below hB
      obtain ⟨b, o, ea, hq, c0⟩ := HA.get hvk
      subst ea
      have HD : Hid (y.args.drop k = v :: y.args.drop (k + 1)) := drop_cons hvk
      have z0 : (0 : Int) ≤ (k : Int) := by omega
      have z1 : (k : Int) < (y.args.length : Int) := by omega
      have B1 : Below wr.heap.size wr wr.drew := (Below.refl _ _).drew
      by_cases v0 : v < 0
      · have HN : Hid (gAc S y nx = none) := show gAc S y nx = none from by
          rw [G.out, HF.out, if_pos rfl, HG.out, HD.out, argsGo_cons, decide_eq_false (by omega)]
          rfl
        go_wp2
        go_quiet (fail)
        go_wp2
        go_ret
        exact ⟨ret_bool (by rw [HN.out]; rfl), below_drewN hb1, fun nx' h => (by rw [HN.out] at h; cases h), hf1⟩
      · by_cases v1 : (x.exprs.length : Int) ≤ v
        · have HN : Hid (gAc S y nx = none) := show gAc S y nx = none from by
            rw [G.out, HF.out, if_pos rfl, HG.out, HD.out, argsGo_cons, decide_eq_false (p := v < (S.length : Int)) (by omega)]
            simp
          have d0 : decide (v < 0) = false := decide_eq_false v0
          go_wp2
          go_quiet (fail)
          go_wp2
          go_ret
          exact ⟨ret_bool (by rw [HN.out]; rfl), below_drewN hb1, fun nx' h => (by rw [HN.out] at h; cases h), hf1⟩
        · obtain ⟨vn, rfl⟩ := Int.eq_ofNat_of_zero_le (show 0 ≤ v by omega)
          have hvn : vn < S.length := by omega
          obtain ⟨s, hs⟩ : ∃ s, S[vn]? = some s := ⟨S[vn], by simp⟩
          have hsl := span_first_le hS hs
          cases e3 : ((s.1 : Int) != (nk : Int))
          · have HN : Hid (gAc S y nx = argsGo S (y.args.drop (k + 1)) (vn + 1)) := show gAc S y nx = _ from by
              have : s.1 = nk := by (simp at e3; omega)
              rw [G.out, HF.out, if_pos rfl, HG.out, HD.out, argsGo_cons, decide_eq_true (by omega), decide_eq_true (by omega), Int.toNat_natCast, hs, Option.getD_some, decide_eq_true this]
              rfl
            have HM : Hid (argsGo S y.args nx = argsGo S (y.args.drop (k + 1)) (vn + 1)) := show argsGo S y.args nx = _ from by
              have := HN.out
              rw [G.out, HF.out, if_pos rfl] at this
              exact this
            have d0 : decide ((vn : Int) < 0) = false := decide_eq_false (by omega)
            have d1 : decide ((x.exprs.length : Int) ≤ (vn : Int)) = false := decide_eq_false (by omega)
            have d2 : decide (x.exprs.length ≤ vn) = false := decide_eq_false (by omega)
            go_wp2
            go_quiet (first | (go_at_call 99; refine Calls.quiet_of_same (l2First_any a_exprs c_exprs x.exprs S vn s _ (HE.below ?_) hS hs); exact below_drewN (Below.refl _ _)))
            go_wp2
            go_roundw
            case rel =>
              refine ⟨k + 1, vn + 1, by omega, by go_num, by omega, HM.out, ?_, ?_, ?_, ?_⟩
              · have hp2 : (wr.drewN nq).cell? ⟨pb, 0, none⟩ = some (.int .i64 (nk : Int)) := hp1
                simp [go_sem, hp2]
              · have hf2 : (wr.drewN nq).frozen? ⟨pb, 0, none⟩ = false := hf1
                simp [go_sem, hf2]
              · have hx2 : (wr.drewN nq).cell? ⟨w.heap.size, 3, none⟩ = some (.slice a_exprs x.exprs.length c_exprs) := hx1
                have hne : w.heap.size ≠ pb := by omega
                rw [cell_setOther hne]
                exact hx2
              · exact (below_drewN hb1).setCell (Nat.le_refl _) _
            case measure => simp [intOf]; omega
          · have HN : Hid (gAc S y nx = none) := show gAc S y nx = none from by
              have : ¬ s.1 = nk := by (simp at e3; omega)
              rw [G.out, HF.out, if_pos rfl, HG.out, HD.out, argsGo_cons, Int.toNat_natCast, hs, Option.getD_some, decide_eq_false this]
              simp
            have d0 : decide ((vn : Int) < 0) = false := decide_eq_false (by omega)
            have d1 : decide ((x.exprs.length : Int) ≤ (vn : Int)) = false := decide_eq_false (by omega)
            have d2 : decide (x.exprs.length ≤ vn) = false := decide_eq_false (by omega)
            go_wp2
            go_quiet (first | (go_at_call 99; refine Calls.quiet_of_same (l2First_any a_exprs c_exprs x.exprs S vn s _ (HE.below ?_) hS hs); exact below_drewN (Below.refl _ _)))
            go_wp2
            go_ret
            exact ⟨ret_bool (by rw [HN.out]; rfl), below_drewN hb1, fun nx' h => (by rw [HN.out] at h; cases h), hf1⟩
    · go_wp2
      go_ret
      have e0 : y.args.drop k = [] := List.drop_eq_nil_of_le (by omega)
      have HN : gAc S y nx = some nk := by
        rw [G.out, HF.out, if_pos rfl, HG.out, e0]
        rfl
      exact ⟨ret_bool (by rw [HN]; rfl), hb1, fun nx' h => (by rw [HN] at h; injection h with h; subst h; exact ⟨hnk, hp1⟩), hf1⟩
end Go.Proofs.YtgkoiojelckblaaGreatDoor
