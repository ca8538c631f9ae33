/-
  OUR OWN TEXT. Modes: the model's side, whole (the walks are written by genms7.py).
-/
import Derived.Test.YtajgedhmliekoaaGreatMs3m
import Derived.Test.YtajgedhmliekoaaGreatMs5m
import Derived.Test.YtajgedhmliekoaaGreatBf6m
namespace Go.Proofs.YtajgedhmliekoaaGreat
open Go.RowKit
attribute [local go_sem ↓] Go.wp_at_zero Go.wp_at_succ

theorem wsm {x : Int} (h : -1000000 ≤ x ∧ x ≤ 1000000) : IntKind.i64.wrap x = x := by
  rw [IntKind.wrap_i64]
  omega
theorem eJ {J : Nat} (h : J ≤ 36) : IntKind.i64.wrap (4 + IntKind.i64.wrap (2 * (J : Int))) = 4 + 2 * (J : Int) := by
  rw [wsm (x := 2 * (J : Int)) (by omega), wsm (by omega)]
theorem eL0 {L : Nat} (h : L ≤ 6) (_ : 0 ≤ L) : IntKind.i64.wrap (IntKind.i64.wrap 0 + IntKind.i64.wrap (2 * IntKind.i64.wrap (L : Int))) = 2 * (L : Int) := by
  have e1 : IntKind.i64.wrap (L : Int) = (L : Int) := wsm (by omega)
  have e2 : IntKind.i64.wrap (2 * (L : Int)) = 2 * (L : Int) := wsm (by omega)
  rw [e1, e2, wsm (x := 0) (by omega), wsm (by omega)]
  try omega
theorem cmpN0 {L J : Nat} {MO : Int} (h : IntKind.i64.wrap (4 + IntKind.i64.wrap (2 * (J : Int))) < IntKind.i64.wrap (IntKind.i64.wrap 0 + IntKind.i64.wrap (2 * IntKind.i64.wrap (L : Int)))) (hc : MO = if 0 * 0 * 0 + 2 * (L - 0) ≤ 4 + 2 * J then 0 else 1) (hL : L ≤ 6) (hp : 0 ≤ L) (hJ : J ≤ 36) : (1 : Int) = MO := by
  rw [eJ hJ, eL0 hL hp] at h
  rw [hc, if_neg (by omega)]
theorem cmpP0 {L J : Nat} {MO : Int} (h : IntKind.i64.wrap (IntKind.i64.wrap 0 + IntKind.i64.wrap (2 * IntKind.i64.wrap (L : Int))) ≤ IntKind.i64.wrap (4 + IntKind.i64.wrap (2 * (J : Int)))) (hc : MO = if 0 * 0 * 0 + 2 * (L - 0) ≤ 4 + 2 * J then 0 else 1) (hL : L ≤ 6) (hp : 0 ≤ L) (hJ : J ≤ 36) : (0 : Int) = MO := by
  rw [eJ hJ, eL0 hL hp] at h
  rw [hc, if_pos (by omega)]
theorem eL1 {L : Nat} (h : L ≤ 6) (hp : 1 ≤ L) : IntKind.i64.wrap (IntKind.i64.wrap (IntKind.i64.wrap 1) + IntKind.i64.wrap (2 * IntKind.i64.wrap ((L : Int) - 1))) = 1 + 2 * ((L : Int) - 1) := by
  have e1 : IntKind.i64.wrap ((L : Int) - 1) = ((L : Int) - 1) := wsm (by omega)
  have e2 : IntKind.i64.wrap (2 * ((L : Int) - 1)) = 2 * ((L : Int) - 1) := wsm (by omega)
  rw [e1, e2, wsm (x := 1) (by omega), wsm (x := 1) (by omega), wsm (by omega)]
  try omega
theorem cmpN1 {L J : Nat} {MO : Int} (h : IntKind.i64.wrap (4 + IntKind.i64.wrap (2 * (J : Int))) < IntKind.i64.wrap (IntKind.i64.wrap (IntKind.i64.wrap 1) + IntKind.i64.wrap (2 * IntKind.i64.wrap ((L : Int) - 1)))) (hc : MO = if 1 * 1 * 1 + 2 * (L - 1) ≤ 4 + 2 * J then 0 else 1) (hL : L ≤ 6) (hp : 1 ≤ L) (hJ : J ≤ 36) : (1 : Int) = MO := by
  rw [eJ hJ, eL1 hL hp] at h
  rw [hc, if_neg (by omega)]
theorem cmpP1 {L J : Nat} {MO : Int} (h : IntKind.i64.wrap (IntKind.i64.wrap (IntKind.i64.wrap 1) + IntKind.i64.wrap (2 * IntKind.i64.wrap ((L : Int) - 1))) ≤ IntKind.i64.wrap (4 + IntKind.i64.wrap (2 * (J : Int)))) (hc : MO = if 1 * 1 * 1 + 2 * (L - 1) ≤ 4 + 2 * J then 0 else 1) (hL : L ≤ 6) (hp : 1 ≤ L) (hJ : J ≤ 36) : (0 : Int) = MO := by
  rw [eJ hJ, eL1 hL hp] at h
  rw [hc, if_pos (by omega)]
theorem eL2 {L : Nat} (h : L ≤ 6) (hp : 2 ≤ L) : IntKind.i64.wrap (IntKind.i64.wrap (IntKind.i64.wrap 4 * 2) + IntKind.i64.wrap (2 * IntKind.i64.wrap ((L : Int) - 2))) = 8 + 2 * ((L : Int) - 2) := by
  have e1 : IntKind.i64.wrap ((L : Int) - 2) = ((L : Int) - 2) := wsm (by omega)
  have e2 : IntKind.i64.wrap (2 * ((L : Int) - 2)) = 2 * ((L : Int) - 2) := wsm (by omega)
  rw [e1, e2, wsm (x := 4) (by omega), wsm (x := 4 * 2) (by omega), wsm (by omega)]
  try omega
theorem cmpN2 {L J : Nat} {MO : Int} (h : IntKind.i64.wrap (4 + IntKind.i64.wrap (2 * (J : Int))) < IntKind.i64.wrap (IntKind.i64.wrap (IntKind.i64.wrap 4 * 2) + IntKind.i64.wrap (2 * IntKind.i64.wrap ((L : Int) - 2)))) (hc : MO = if 2 * 2 * 2 + 2 * (L - 2) ≤ 4 + 2 * J then 0 else 1) (hL : L ≤ 6) (hp : 2 ≤ L) (hJ : J ≤ 36) : (1 : Int) = MO := by
  rw [eJ hJ, eL2 hL hp] at h
  rw [hc, if_neg (by omega)]
theorem cmpP2 {L J : Nat} {MO : Int} (h : IntKind.i64.wrap (IntKind.i64.wrap (IntKind.i64.wrap 4 * 2) + IntKind.i64.wrap (2 * IntKind.i64.wrap ((L : Int) - 2))) ≤ IntKind.i64.wrap (4 + IntKind.i64.wrap (2 * (J : Int)))) (hc : MO = if 2 * 2 * 2 + 2 * (L - 2) ≤ 4 + 2 * J then 0 else 1) (hL : L ≤ 6) (hp : 2 ≤ L) (hJ : J ≤ 36) : (0 : Int) = MO := by
  rw [eJ hJ, eL2 hL hp] at h
  rw [hc, if_pos (by omega)]
theorem eL3 {L : Nat} (h : L ≤ 6) (hp : 3 ≤ L) : IntKind.i64.wrap (IntKind.i64.wrap (IntKind.i64.wrap 9 * 3) + IntKind.i64.wrap (2 * IntKind.i64.wrap ((L : Int) - 3))) = 27 + 2 * ((L : Int) - 3) := by
  have e1 : IntKind.i64.wrap ((L : Int) - 3) = ((L : Int) - 3) := wsm (by omega)
  have e2 : IntKind.i64.wrap (2 * ((L : Int) - 3)) = 2 * ((L : Int) - 3) := wsm (by omega)
  rw [e1, e2, wsm (x := 9) (by omega), wsm (x := 9 * 3) (by omega), wsm (by omega)]
  try omega
theorem cmpN3 {L J : Nat} {MO : Int} (h : IntKind.i64.wrap (4 + IntKind.i64.wrap (2 * (J : Int))) < IntKind.i64.wrap (IntKind.i64.wrap (IntKind.i64.wrap 9 * 3) + IntKind.i64.wrap (2 * IntKind.i64.wrap ((L : Int) - 3)))) (hc : MO = if 3 * 3 * 3 + 2 * (L - 3) ≤ 4 + 2 * J then 0 else 1) (hL : L ≤ 6) (hp : 3 ≤ L) (hJ : J ≤ 36) : (1 : Int) = MO := by
  rw [eJ hJ, eL3 hL hp] at h
  rw [hc, if_neg (by omega)]
theorem cmpP3 {L J : Nat} {MO : Int} (h : IntKind.i64.wrap (IntKind.i64.wrap (IntKind.i64.wrap 9 * 3) + IntKind.i64.wrap (2 * IntKind.i64.wrap ((L : Int) - 3))) ≤ IntKind.i64.wrap (4 + IntKind.i64.wrap (2 * (J : Int)))) (hc : MO = if 3 * 3 * 3 + 2 * (L - 3) ≤ 4 + 2 * J then 0 else 1) (hL : L ≤ 6) (hp : 3 ≤ L) (hJ : J ≤ 36) : (0 : Int) = MO := by
  rw [eJ hJ, eL3 hL hp] at h
  rw [hc, if_pos (by omega)]

set_option maxRecDepth 100000 in
set_option maxHeartbeats 3200000 in
theorem sModes_0 (rs : List Ru) (a : Option Addr) (c : Nat) {q : Option Nat} (w : World) (hv : RusAt q w a rs) (hl : rs.length ≤ 16) (hC : ∀ w', Below w.heap.size w w' → Calls Tryz.prog 22 #[.slice a rs.length c] w' fun e w'' => e = .returned (.bool true) ∧ Below w'.heap.size w' w'') (hk0 : (chk rs).1 = 0) :
    Calls Tryz.prog 13 #[.slice a rs.length c, .int .i64 0] w fun e w' =>
      (∃ a' c', e = .returned (.slice a' (modesL 0 rs).length c') ∧ w'.ownsRow w.heap.size 3 1 (.slice a' (modesL 0 rs).length c') (modesL 0 rs).length (icells (modesL 0 rs))) ∧ Below w.heap.size w w' := by
  have HC := hideH (hC w (Below.refl _ _))
  have HK := hideH hk0
  clear hC hk0
  go_enter Tryz.func13, Tryz.ntmps13
  go_wp2_with (first | (go_at_call 22; refine HC.out.mono ?_; rintro e w1 ⟨rfl, hb1⟩) | fail)
  clear HC
  go_loopw [5, 23] (fun v i wr => ∃ (k : Nat) (a' : Option Addr) (c' : Nat), k ≤ rs.length ∧ i = .int .i64 k ∧ v = .slice a' k c' ∧ wr.ownsRow w.heap.size 3 1 (.slice a' k c') k (icells (modesL 0 (rs.take k))) ∧ Below w.heap.size w wr) (fun _ i _ => rs.length - (intOf i).toNat)
  case atStart => exact ⟨0, none, 0, by omega, rfl, rfl, World.ownsRow_nil _ _ _ _, hb1⟩
  case round =>
    clear hb1
    obtain ⟨k, a', c', hk, rfl, rfl, hown, hb⟩ := hrel
    have HO := hideH hown
    clear hown
    by_cases hkl : k < rs.length
    · obtain ⟨x, hxk⟩ : ∃ x, rs[k]? = some x := ⟨rs[k], by simp [hkl]⟩
      obtain ⟨b, o, a1, c1, a2, c2, a3, c3, rfl, _, d0, d1, d2, d3, d4, h_pats, _, _, _⟩ := (hv.below hb).get hxk
      obtain ⟨p6, t6, p3⟩ := chk_small HK.out (List.mem_of_getElem? hxk)
      have HJE := hideH (chk_joins HK.out (List.mem_of_getElem? hxk))
      have HS := hideH (modesL_snoc (how := 0) hxk)
      have R1 : ∀ o, Below wr.heap.size wr (wr.alloc o) := fun o => (Below.refl _ _).alloc (Nat.le_refl _) _
      have HP := hideH (fun w' h => l2Positive_any x a1 c1 a2 c2 a3 c3 (q := none) w' h (by omega))
      have HPA := hideH (fun w' (h : Below wr.heap.size wr w') => h_pats.bare.below h)
      have hbase : ∀ g, (Value.slice a' k c').ownBlock = some g → w.heap.size ≤ g ∧ g < wr.heap.size := fun g hg => HO.out.lt g hg
      have HBS := hideH hbase
      have HR1 := hideH R1
      have HOW := hideH (fun w' (h : Below wr.heap.size wr w') => ownsBM HO.out h)
      have HME : Hid ((0 : Int) = modeOf 0 k x) := show (0 : Int) = modeOf 0 k x from rfl
      clear h_pats R1 hbase HK
      go_wp2_with (first | (go_at_call 31; with_reducible refine (HP.out _ (HPA.out _ (HR1.out _))).mono ?_; rintro e w2 ⟨rfl, hb2⟩; have hW2 := (HR1.out _).trans (hb2.mono (HR1.out _).size); have HW := hideH hW2) | (at_builtin; refine wpList_append_any (by rfl) (.tmp 57) (.tmp 59) 23 (by rfl) w.heap.size 3 _ 1 8 Tryz.underlying23 infoIntM (by rfl) (by omega) _ k _ (by rfl) ((HOW.out _ HW.out).alloc _) (some ⟨_, 0, none⟩) 1 1 (by rfl) [.int .i64 0] (by rfl) (fun e => by cases e) (news_allocM _ _ _ _ (by simp)) (by simp [Value.oneCell']) (by unfold maxLen; omega) (by omega) (by have := HW.out.size; have := hb.size; simp; omega) ?_; intro a4 c4 w3 ho3 hg3 hl3) | fail)
      have hs2 := HW.out.size
      have hB3 : Below w.heap.size w w3 := ((hb.trans (HW.out.mono hb.size)).alloc (by have := hb.size; omega) _).grown hg3.out (by have := hb.size; simp; omega) (fun g hg => (HBS.out g hg).1)
      have ho3' : w3.ownsRow w.heap.size 3 1 (.slice a4 (k + 1) c4) (k + 1) (icells (modesL 0 (rs.take (k + 1)))) := by
        have := ho3.out
        rw [HS.out]
        rw [← HME.out]
        simpa [icells] using this
      clear ho3 hg3 hl3 HOW
      go_roundw
      case rel => exact ⟨k + 1, a4, c4, by omega, by go_num, rfl, ho3', hB3⟩
      case measure => simp [intOf]; omega
    · go_wp2
      go_ret
      have hkk : k = rs.length := by omega
      subst hkk
      have h := HO.out
      rw [List.take_of_length_le (Nat.le_refl _)] at h
      have hml := modesL_len 0 rs
      refine ⟨⟨a', c', by rw [hml]; rfl, ?_⟩, hb⟩
      rw [hml]
      exact h

set_option maxRecDepth 100000 in
set_option maxHeartbeats 3200000 in
theorem sModes_1 (rs : List Ru) (a : Option Addr) (c : Nat) {q : Option Nat} (w : World) (hv : RusAt q w a rs) (hl : rs.length ≤ 16) (hC : ∀ w', Below w.heap.size w w' → Calls Tryz.prog 22 #[.slice a rs.length c] w' fun e w'' => e = .returned (.bool true) ∧ Below w'.heap.size w' w'') (hk0 : (chk rs).1 = 0) :
    Calls Tryz.prog 13 #[.slice a rs.length c, .int .i64 1] w fun e w' =>
      (∃ a' c', e = .returned (.slice a' (modesL 1 rs).length c') ∧ w'.ownsRow w.heap.size 3 1 (.slice a' (modesL 1 rs).length c') (modesL 1 rs).length (icells (modesL 1 rs))) ∧ Below w.heap.size w w' := by
  have HC := hideH (hC w (Below.refl _ _))
  have HK := hideH hk0
  clear hC hk0
  go_enter Tryz.func13, Tryz.ntmps13
  go_wp2_with (first | (go_at_call 22; refine HC.out.mono ?_; rintro e w1 ⟨rfl, hb1⟩) | fail)
  clear HC
  go_loopw [5, 23] (fun v i wr => ∃ (k : Nat) (a' : Option Addr) (c' : Nat), k ≤ rs.length ∧ i = .int .i64 k ∧ v = .slice a' k c' ∧ wr.ownsRow w.heap.size 3 1 (.slice a' k c') k (icells (modesL 1 (rs.take k))) ∧ Below w.heap.size w wr) (fun _ i _ => rs.length - (intOf i).toNat)
  case atStart => exact ⟨0, none, 0, by omega, rfl, rfl, World.ownsRow_nil _ _ _ _, hb1⟩
  case round =>
    clear hb1
    obtain ⟨k, a', c', hk, rfl, rfl, hown, hb⟩ := hrel
    have HO := hideH hown
    clear hown
    by_cases hkl : k < rs.length
    · obtain ⟨x, hxk⟩ : ∃ x, rs[k]? = some x := ⟨rs[k], by simp [hkl]⟩
      obtain ⟨b, o, a1, c1, a2, c2, a3, c3, rfl, _, d0, d1, d2, d3, d4, h_pats, _, _, _⟩ := (hv.below hb).get hxk
      obtain ⟨p6, t6, p3⟩ := chk_small HK.out (List.mem_of_getElem? hxk)
      have HJE := hideH (chk_joins HK.out (List.mem_of_getElem? hxk))
      have HS := hideH (modesL_snoc (how := 1) hxk)
      have R1 : ∀ o, Below wr.heap.size wr (wr.alloc o) := fun o => (Below.refl _ _).alloc (Nat.le_refl _) _
      have HP := hideH (fun w' h => l2Positive_any x a1 c1 a2 c2 a3 c3 (q := none) w' h (by omega))
      have HPA := hideH (fun w' (h : Below wr.heap.size wr w') => h_pats.bare.below h)
      have hbase : ∀ g, (Value.slice a' k c').ownBlock = some g → w.heap.size ≤ g ∧ g < wr.heap.size := fun g hg => HO.out.lt g hg
      have HBS := hideH hbase
      have HR1 := hideH R1
      have HOW := hideH (fun w' (h : Below wr.heap.size wr w') => ownsBM HO.out h)
      have HME : Hid ((1 : Int) = modeOf 1 k x) := show (1 : Int) = modeOf 1 k x from rfl
      clear h_pats R1 hbase HK
      go_wp2_with (first | (go_at_call 31; with_reducible refine (HP.out _ (HPA.out _ (HR1.out _))).mono ?_; rintro e w2 ⟨rfl, hb2⟩; have hW2 := (HR1.out _).trans (hb2.mono (HR1.out _).size); have HW := hideH hW2) | (at_builtin; refine wpList_append_any (by rfl) (.tmp 57) (.tmp 59) 23 (by rfl) w.heap.size 3 _ 1 8 Tryz.underlying23 infoIntM (by rfl) (by omega) _ k _ (by rfl) ((HOW.out _ HW.out).alloc _) (some ⟨_, 0, none⟩) 1 1 (by rfl) [.int .i64 1] (by rfl) (fun e => by cases e) (news_allocM _ _ _ _ (by simp)) (by simp [Value.oneCell']) (by unfold maxLen; omega) (by omega) (by have := HW.out.size; have := hb.size; simp; omega) ?_; intro a4 c4 w3 ho3 hg3 hl3) | fail)
      have hs2 := HW.out.size
      have hB3 : Below w.heap.size w w3 := ((hb.trans (HW.out.mono hb.size)).alloc (by have := hb.size; omega) _).grown hg3.out (by have := hb.size; simp; omega) (fun g hg => (HBS.out g hg).1)
      have ho3' : w3.ownsRow w.heap.size 3 1 (.slice a4 (k + 1) c4) (k + 1) (icells (modesL 1 (rs.take (k + 1)))) := by
        have := ho3.out
        rw [HS.out]
        rw [← HME.out]
        simpa [icells] using this
      clear ho3 hg3 hl3 HOW
      go_roundw
      case rel => exact ⟨k + 1, a4, c4, by omega, by go_num, rfl, ho3', hB3⟩
      case measure => simp [intOf]; omega
    · go_wp2
      go_ret
      have hkk : k = rs.length := by omega
      subst hkk
      have h := HO.out
      rw [List.take_of_length_le (Nat.le_refl _)] at h
      have hml := modesL_len 1 rs
      refine ⟨⟨a', c', by rw [hml]; rfl, ?_⟩, hb⟩
      rw [hml]
      exact h

set_option maxRecDepth 100000 in
set_option maxHeartbeats 3200000 in
theorem sModes_2 (rs : List Ru) (a : Option Addr) (c : Nat) {q : Option Nat} (w : World) (hv : RusAt q w a rs) (hl : rs.length ≤ 16) (hC : ∀ w', Below w.heap.size w w' → Calls Tryz.prog 22 #[.slice a rs.length c] w' fun e w'' => e = .returned (.bool true) ∧ Below w'.heap.size w' w'') (hk0 : (chk rs).1 = 0) :
    Calls Tryz.prog 13 #[.slice a rs.length c, .int .i64 2] w fun e w' =>
      (∃ a' c', e = .returned (.slice a' (modesL 2 rs).length c') ∧ w'.ownsRow w.heap.size 3 1 (.slice a' (modesL 2 rs).length c') (modesL 2 rs).length (icells (modesL 2 rs))) ∧ Below w.heap.size w w' := by
  have HC := hideH (hC w (Below.refl _ _))
  have HK := hideH hk0
  clear hC hk0
  go_enter Tryz.func13, Tryz.ntmps13
  go_wp2_with (first | (go_at_call 22; refine HC.out.mono ?_; rintro e w1 ⟨rfl, hb1⟩) | fail)
  clear HC
  go_loopw [5, 23] (fun v i wr => ∃ (k : Nat) (a' : Option Addr) (c' : Nat), k ≤ rs.length ∧ i = .int .i64 k ∧ v = .slice a' k c' ∧ wr.ownsRow w.heap.size 3 1 (.slice a' k c') k (icells (modesL 2 (rs.take k))) ∧ Below w.heap.size w wr) (fun _ i _ => rs.length - (intOf i).toNat)
  case atStart => exact ⟨0, none, 0, by omega, rfl, rfl, World.ownsRow_nil _ _ _ _, hb1⟩
  case round =>
    clear hb1
    obtain ⟨k, a', c', hk, rfl, rfl, hown, hb⟩ := hrel
    have HO := hideH hown
    clear hown
    by_cases hkl : k < rs.length
    · obtain ⟨x, hxk⟩ : ∃ x, rs[k]? = some x := ⟨rs[k], by simp [hkl]⟩
      obtain ⟨b, o, a1, c1, a2, c2, a3, c3, rfl, _, d0, d1, d2, d3, d4, h_pats, _, _, _⟩ := (hv.below hb).get hxk
      obtain ⟨p6, t6, p3⟩ := chk_small HK.out (List.mem_of_getElem? hxk)
      have HJE := hideH (chk_joins HK.out (List.mem_of_getElem? hxk))
      have HS := hideH (modesL_snoc (how := 2) hxk)
      have R1 : ∀ o, Below wr.heap.size wr (wr.alloc o) := fun o => (Below.refl _ _).alloc (Nat.le_refl _) _
      have HP := hideH (fun w' h => l2Positive_any x a1 c1 a2 c2 a3 c3 (q := none) w' h (by omega))
      have HPA := hideH (fun w' (h : Below wr.heap.size wr w') => h_pats.bare.below h)
      have hbase : ∀ g, (Value.slice a' k c').ownBlock = some g → w.heap.size ≤ g ∧ g < wr.heap.size := fun g hg => HO.out.lt g hg
      have HBS := hideH hbase
      have HR1 := hideH R1
      have HOW := hideH (fun w' (h : Below wr.heap.size wr w') => ownsBM HO.out h)
      have HJ := hideH (fun w' h => l5Joins_any x a1 c1 a2 c2 a3 c3 (q := none) w' h p6 t6)
      rw [HJE.out] at HJ
      have hJ : joinsOf x ≤ 36 := by
        have := joinsGo_le jnI x.pats [] t6
        unfold joinsOf
        omega
      have hpl : positives x.pats ≤ x.pats.length := List.countP_le_length
      have HCO : Hid (modeOf 2 k x = if positives x.pats * positives x.pats * positives x.pats + 2 * (x.pats.length - positives x.pats) ≤ 4 + 2 * joinsOf x then 0 else 1) := show modeOf 2 k x = _ from rfl
      generalize modeOf 2 k x = MO at HS HCO
      generalize positives x.pats = p at HP HCO hpl p3
      generalize hL : x.pats.length = L at *
      generalize joinsOf x = J at HJ HCO hJ
      have hp : p = 0 ∨ p = 1 ∨ p = 2 ∨ p = 3 := by omega
      clear h_pats R1 hbase HK hL HJE t6
      rcases hp with rfl | rfl | rfl | rfl
      all_goals
        go_wp2_with (first | (go_at_call 31; with_reducible refine (HP.out _ (HPA.out _ (HR1.out _))).mono ?_; rintro e w2 ⟨rfl, hb2⟩; have hW2 := (HR1.out _).trans (hb2.mono (HR1.out _).size); have HW := hideH hW2) | fail)
        have e0 := cell_below hb2 (p := ⟨wr.heap.size, 0, none⟩) (x := .string x.name) (by simp [go_sem])
        have e1 := cell_below hb2 (p := ⟨wr.heap.size, 1, none⟩) (x := .int .i64 x.sal) (by simp [go_sem])
        have e2 := cell_below hb2 (p := ⟨wr.heap.size, 2, none⟩) (x := .slice a1 L c1) (by simp [go_sem])
        have e3 := cell_below hb2 (p := ⟨wr.heap.size, 3, none⟩) (x := .slice a2 x.exprs.length c2) (by simp [go_sem])
        have e4 := cell_below hb2 (p := ⟨wr.heap.size, 4, none⟩) (x := .slice a3 x.acts.length c3) (by simp [go_sem])
        have HJ1 := hideH (HJ.out w2.drew (HPA.out _ hW2.drew))
        have hW2d : Below wr.heap.size wr w2.drew := hW2.drew
        clear hb2 HJ HP HPA HW hW2 d0 d1 d2 d3 d4
        go_region_held3 (fun w' => w'.cell? ⟨wr.heap.size, 0, none⟩ = some (.string x.name) ∧ w'.cell? ⟨wr.heap.size, 1, none⟩ = some (.int .i64 x.sal) ∧ w'.cell? ⟨wr.heap.size, 2, none⟩ = some (.slice a1 L c1) ∧ w'.cell? ⟨wr.heap.size, 3, none⟩ = some (.slice a2 x.exprs.length c2) ∧ w'.cell? ⟨wr.heap.size, 4, none⟩ = some (.slice a3 x.acts.length c3))
          (first | (go_split_ands; (refine ⟨?_, ?_, ?_, ?_, ?_⟩ <;> first | with_reducible assumption | with_reducible exact cell_below hb4 (by assumption) | (simp [*]; done)); done) | fail)
          (first | (go_at_call 32; with_reducible refine HJ1.out.mono ?_; rintro e w4 ⟨rfl, hb4⟩; have hW4 := hW2d.trans (hb4.mono hW2d.size); have HW := hideH hW4; clear hW4) | fail)
        clear HJ1 hW2d e0 e1 e2 e3 e4
        go_wp2_with (first | (at_builtin; refine wpList_append_any (by rfl) (.tmp 57) (.tmp 59) 23 (by rfl) w.heap.size 3 _ 1 8 Tryz.underlying23 infoIntM (by rfl) (by omega) _ k _ (by rfl) ((HOW.out _ HW.out).alloc _) (some ⟨_, 0, none⟩) 1 1 (by rfl) [.int .i64 1] (by rfl) (fun e => by cases e) (news_allocM _ _ _ _ (by simp)) (by simp [Value.oneCell']) (by unfold maxLen; omega) (by omega) (by have := HW.out.size; have := hb.size; simp; omega) ?_; intro a4 c4 w3 ho3 hg3 hl3) | (at_builtin; refine wpList_append_any (by rfl) (.tmp 57) (.tmp 59) 23 (by rfl) w.heap.size 3 _ 1 8 Tryz.underlying23 infoIntM (by rfl) (by omega) _ k _ (by rfl) ((HOW.out _ HW.out).alloc _) (some ⟨_, 0, none⟩) 1 1 (by rfl) [.int .i64 0] (by rfl) (fun e => by cases e) (news_allocM _ _ _ _ (by simp)) (by simp [Value.oneCell']) (by unfold maxLen; omega) (by omega) (by have := HW.out.size; have := hb.size; simp; omega) ?_; intro a4 c4 w3 ho3 hg3 hl3) | fail)
        · have HME : Hid ((1 : Int) = MO) := show (1 : Int) = MO from by
            rename_i hcmp
            with_reducible first | exact cmpN0 hcmp HCO.out p6 hpl hJ | exact cmpN1 hcmp HCO.out p6 hpl hJ | exact cmpN2 hcmp HCO.out p6 hpl hJ | exact cmpN3 hcmp HCO.out p6 hpl hJ
          have hs2 := HW.out.size
          have hB3 : Below w.heap.size w w3 := ((hb.trans (HW.out.mono hb.size)).alloc (by have := hb.size; omega) _).grown hg3.out (by have := hb.size; simp; omega) (fun g hg => (HBS.out g hg).1)
          have ho3' : w3.ownsRow w.heap.size 3 1 (.slice a4 (k + 1) c4) (k + 1) (icells (modesL 2 (rs.take (k + 1)))) := by
            have := ho3.out
            rw [HS.out]
            rw [← HME.out]
            simpa [icells] using this
          clear ho3 hg3 hl3 HOW
          go_roundw
          case rel => exact ⟨k + 1, a4, c4, by omega, by go_num, rfl, ho3', hB3⟩
          case measure => simp [intOf]; omega
        · have HME : Hid ((0 : Int) = MO) := show (0 : Int) = MO from by
            rename_i hcmp
            with_reducible first | exact cmpP0 hcmp HCO.out p6 hpl hJ | exact cmpP1 hcmp HCO.out p6 hpl hJ | exact cmpP2 hcmp HCO.out p6 hpl hJ | exact cmpP3 hcmp HCO.out p6 hpl hJ
          have hs2 := HW.out.size
          have hB3 : Below w.heap.size w w3 := ((hb.trans (HW.out.mono hb.size)).alloc (by have := hb.size; omega) _).grown hg3.out (by have := hb.size; simp; omega) (fun g hg => (HBS.out g hg).1)
          have ho3' : w3.ownsRow w.heap.size 3 1 (.slice a4 (k + 1) c4) (k + 1) (icells (modesL 2 (rs.take (k + 1)))) := by
            have := ho3.out
            rw [HS.out]
            rw [← HME.out]
            simpa [icells] using this
          clear ho3 hg3 hl3 HOW
          go_roundw
          case rel => exact ⟨k + 1, a4, c4, by omega, by go_num, rfl, ho3', hB3⟩
          case measure => simp [intOf]; omega
    · go_wp2
      go_ret
      have hkk : k = rs.length := by omega
      subst hkk
      have h := HO.out
      rw [List.take_of_length_le (Nat.le_refl _)] at h
      have hml := modesL_len 2 rs
      refine ⟨⟨a', c', by rw [hml]; rfl, ?_⟩, hb⟩
      rw [hml]
      exact h

set_option maxRecDepth 100000 in
set_option maxHeartbeats 3200000 in
theorem sModes_3 (rs : List Ru) (a : Option Addr) (c : Nat) {q : Option Nat} (w : World) (hv : RusAt q w a rs) (hl : rs.length ≤ 16) (hC : ∀ w', Below w.heap.size w w' → Calls Tryz.prog 22 #[.slice a rs.length c] w' fun e w'' => e = .returned (.bool true) ∧ Below w'.heap.size w' w'') (hk0 : (chk rs).1 = 0) :
    Calls Tryz.prog 13 #[.slice a rs.length c, .int .i64 3] w fun e w' =>
      (∃ a' c', e = .returned (.slice a' (modesL 3 rs).length c') ∧ w'.ownsRow w.heap.size 3 1 (.slice a' (modesL 3 rs).length c') (modesL 3 rs).length (icells (modesL 3 rs))) ∧ Below w.heap.size w w' := by
  have HC := hideH (hC w (Below.refl _ _))
  have HK := hideH hk0
  clear hC hk0
  go_enter Tryz.func13, Tryz.ntmps13
  go_wp2_with (first | (go_at_call 22; refine HC.out.mono ?_; rintro e w1 ⟨rfl, hb1⟩) | fail)
  clear HC
  go_loopw [5, 23] (fun v i wr => ∃ (k : Nat) (a' : Option Addr) (c' : Nat), k ≤ rs.length ∧ i = .int .i64 k ∧ v = .slice a' k c' ∧ wr.ownsRow w.heap.size 3 1 (.slice a' k c') k (icells (modesL 3 (rs.take k))) ∧ Below w.heap.size w wr) (fun _ i _ => rs.length - (intOf i).toNat)
  case atStart => exact ⟨0, none, 0, by omega, rfl, rfl, World.ownsRow_nil _ _ _ _, hb1⟩
  case round =>
    clear hb1
    obtain ⟨k, a', c', hk, rfl, rfl, hown, hb⟩ := hrel
    have HO := hideH hown
    clear hown
    by_cases hkl : k < rs.length
    · obtain ⟨x, hxk⟩ : ∃ x, rs[k]? = some x := ⟨rs[k], by simp [hkl]⟩
      obtain ⟨b, o, a1, c1, a2, c2, a3, c3, rfl, _, d0, d1, d2, d3, d4, h_pats, _, _, _⟩ := (hv.below hb).get hxk
      obtain ⟨p6, t6, p3⟩ := chk_small HK.out (List.mem_of_getElem? hxk)
      have HJE := hideH (chk_joins HK.out (List.mem_of_getElem? hxk))
      have HS := hideH (modesL_snoc (how := 3) hxk)
      have R1 : ∀ o, Below wr.heap.size wr (wr.alloc o) := fun o => (Below.refl _ _).alloc (Nat.le_refl _) _
      have HP := hideH (fun w' h => l2Positive_any x a1 c1 a2 c2 a3 c3 (q := none) w' h (by omega))
      have HPA := hideH (fun w' (h : Below wr.heap.size wr w') => h_pats.bare.below h)
      have hbase : ∀ g, (Value.slice a' k c').ownBlock = some g → w.heap.size ≤ g ∧ g < wr.heap.size := fun g hg => HO.out.lt g hg
      have HBS := hideH hbase
      have HR1 := hideH R1
      have HOW := hideH (fun w' (h : Below wr.heap.size wr w') => ownsBM HO.out h)
      have h2 : k % 2 = 0 ∨ k % 2 = 1 := by omega
      clear h_pats R1 hbase HK
      rcases h2 with h2 | h2
      · have HME : Hid ((0 : Int) = modeOf 3 k x) := show (0 : Int) = modeOf 3 k x from by
          show (0 : Int) = (k : Int) % 2
          omega
        go_wp2_with (first | (go_at_call 31; with_reducible refine (HP.out _ (HPA.out _ (HR1.out _))).mono ?_; rintro e w2 ⟨rfl, hb2⟩; have hW2 := (HR1.out _).trans (hb2.mono (HR1.out _).size); have HW := hideH hW2) | (at_builtin; refine wpList_append_any (by rfl) (.tmp 57) (.tmp 59) 23 (by rfl) w.heap.size 3 _ 1 8 Tryz.underlying23 infoIntM (by rfl) (by omega) _ k _ (by rfl) ((HOW.out _ HW.out).alloc _) (some ⟨_, 0, none⟩) 1 1 (by rfl) [.int .i64 0] (by rfl) (fun e => by cases e) (news_allocM _ _ _ _ (by simp)) (by simp [Value.oneCell']) (by unfold maxLen; omega) (by omega) (by have := HW.out.size; have := hb.size; simp; omega) ?_; intro a4 c4 w3 ho3 hg3 hl3) | fail)
        have hs2 := HW.out.size
        have hB3 : Below w.heap.size w w3 := ((hb.trans (HW.out.mono hb.size)).alloc (by have := hb.size; omega) _).grown hg3.out (by have := hb.size; simp; omega) (fun g hg => (HBS.out g hg).1)
        have ho3' : w3.ownsRow w.heap.size 3 1 (.slice a4 (k + 1) c4) (k + 1) (icells (modesL 3 (rs.take (k + 1)))) := by
          have := ho3.out
          rw [HS.out]
          rw [← HME.out]
          simpa [icells] using this
        clear ho3 hg3 hl3 HOW
        go_roundw
        case rel => exact ⟨k + 1, a4, c4, by omega, by go_num, rfl, ho3', hB3⟩
        case measure => simp [intOf]; omega
      · have HME : Hid ((1 : Int) = modeOf 3 k x) := show (1 : Int) = modeOf 3 k x from by
          show (1 : Int) = (k : Int) % 2
          omega
        go_wp2_with (first | (go_at_call 31; with_reducible refine (HP.out _ (HPA.out _ (HR1.out _))).mono ?_; rintro e w2 ⟨rfl, hb2⟩; have hW2 := (HR1.out _).trans (hb2.mono (HR1.out _).size); have HW := hideH hW2) | (at_builtin; refine wpList_append_any (by rfl) (.tmp 57) (.tmp 59) 23 (by rfl) w.heap.size 3 _ 1 8 Tryz.underlying23 infoIntM (by rfl) (by omega) _ k _ (by rfl) ((HOW.out _ HW.out).alloc _) (some ⟨_, 0, none⟩) 1 1 (by rfl) [.int .i64 1] (by rfl) (fun e => by cases e) (news_allocM _ _ _ _ (by simp)) (by simp [Value.oneCell']) (by unfold maxLen; omega) (by omega) (by have := HW.out.size; have := hb.size; simp; omega) ?_; intro a4 c4 w3 ho3 hg3 hl3) | fail)
        have hs2 := HW.out.size
        have hB3 : Below w.heap.size w w3 := ((hb.trans (HW.out.mono hb.size)).alloc (by have := hb.size; omega) _).grown hg3.out (by have := hb.size; simp; omega) (fun g hg => (HBS.out g hg).1)
        have ho3' : w3.ownsRow w.heap.size 3 1 (.slice a4 (k + 1) c4) (k + 1) (icells (modesL 3 (rs.take (k + 1)))) := by
          have := ho3.out
          rw [HS.out]
          rw [← HME.out]
          simpa [icells] using this
        clear ho3 hg3 hl3 HOW
        go_roundw
        case rel => exact ⟨k + 1, a4, c4, by omega, by go_num, rfl, ho3', hB3⟩
        case measure => simp [intOf]; omega
    · go_wp2
      go_ret
      have hkk : k = rs.length := by omega
      subst hkk
      have h := HO.out
      rw [List.take_of_length_le (Nat.le_refl _)] at h
      have hml := modesL_len 3 rs
      refine ⟨⟨a', c', by rw [hml]; rfl, ?_⟩, hb⟩
      rw [hml]
      exact h
end Go.Proofs.YtajgedhmliekoaaGreat
