/-
  OUR OWN TEXT. Sc4o6, Sc4, one behind the other.
-/
import Derived.Test.YtgamdkokmkagaaaGreatJt
import Derived.Test.YtgamdkokmkagaaaGreatJu
import Derived.Test.YtgamdkokmkagaaaGreatJv
namespace Go.Proofs.YtgamdkokmkagaaaGreat
open Go.RowKit
attribute [local go_sem ↓] Go.wp_at_zero Go.wp_at_succ

theorem hidSF {p : Prop} (h : p) : Hid p := h

set_option maxHeartbeats 3200000 in
theorem goodExpr_o7b (a : Option Addr) (c : Nat) (es : List Ex) (S : List Sp) (e : Ex) (w : World) {q : Option Nat} (hv : ExsAt q w a es) (hl : es.length ≤ 60) (he : es[S.length]? = some e) (ho0 : 0 ≤ e.op) (ho1 : e.op < 256) (k2 : e.kind = 2) (har : isAr e.op = true) (hva : e.var.toList.isEmpty = true) (hz : zeroV e.val = true) (hS : Spans es S) (bn : Nat) (hbn : bn + 1 = S.length) (heb : e.b = (bn : Int)) (sb : Sp) (hsb : S[bn]? = some sb) (ha0 : ¬ e.a < 0) (hd : (e.a == (sb.1 : Int) - 1) = true) (ea : Nat) (sa : Sp) (hea : e.a = (ea : Int)) (hsa : S[ea]? = some sa) :
    Calls Tryz.prog 80 #[.slice a es.length c, .int .i64 (S.length : Int)] w fun e' w' => e' = .returned (.bool (decide (1 + max sa.2 sb.2 ≤ 20))) ∧ Below w.heap.size w w' := by
  have hkl : S.length < es.length := (List.getElem?_eq_some_iff.1 he).1
  have B1 : ∀ o, Below w.heap.size w (w.alloc o) := fun o => (Below.refl _ _).alloc (Nat.le_refl _) _
  have B3 : ∀ o o1 o2, Below w.heap.size w (((w.alloc o).drew.alloc o1).alloc o2) := fun o o1 o2 => ((B1 o).drew.alloc (by simp) _).alloc (by simp; omega) _
  have hv0 := hv
  obtain ⟨b, o, rfl, hq, c0, c1, c2, c3, c4, c5, c6, c7⟩ := hv.get he
  have hcv := run_conv1 e.op
  have hIs := hidSF (l2Is_ar e.op ho0 ho1)
  rw [har] at hIs
  have hZ := hidSF (fun w => l2Zero_any e.val w)
  rw [hz] at hZ
  have hbi : (e.b != (S.length : Int) - 1) = false := by simp [heb]; omega
  have hw : IntKind.i64.wrap ((S.length : Int) - 1) = (S.length : Int) - 1 := by rw [IntKind.wrap_i64]; omega
  have hb0d : decide (e.b < 0) = false := decide_eq_false (by omega)
  have ha0d : decide (e.a < 0) = false := decide_eq_false ha0
  have hfl := hS.first_le bn sb hsb
  have hw2 : IntKind.i64.wrap ((sb.1 : Int) - 1) = (sb.1 : Int) - 1 := by rw [IntKind.wrap_i64]; omega
  have hF0 : ∀ w', ExsAt q w' (some ⟨b, o, none⟩) es → Calls Tryz.prog 83 #[.slice (some ⟨b, o, none⟩) es.length c, .int .i64 e.b] w' fun e w'' => e = .returned (.int .i64 (sb.1 : Int)) ∧ w'' = w' := fun w' h => by
    rw [heb]
    exact l2First_any (some ⟨b, o, none⟩) c es S bn sb w' h hS hsb
  have hF := hidSF hF0
  clear hF0
  have hDp := hidSF (fun w' (h : ExsAt q w' (some ⟨b, o, none⟩) es) => l2Depth_op (some ⟨b, o, none⟩) c es S.length ea bn sa.2 sb.2 e w' h he k2 hea heb (hS.depth_le ea sa hsa) (hS.depth_le bn sb hsb) (l2Depth_any (some ⟨b, o, none⟩) c es S w' h hS ea sa hsa) (l2Depth_any (some ⟨b, o, none⟩) c es S w' h hS bn sb hsb))
  clear hea hsa
  clear heb hsb hfl hbn hS

  rw [k2] at c0
  clear hq hv
  have h1 : (e.op == 0) = false := by
    cases h : (e.op == 0)
    · rfl
    · have h0 : e.op = 0 := by simpa using h
      rw [h0] at har
      exact absurd har (by decide)
  go_enter Tryz.func80, Tryz.ntmps80
  go_wp2
  clear c0 c1 c2 c3 c4 c5 c6 c7 he
  (try clear h3); (try clear h2); clear h1
  refine wp_region_noPanic ?_
  refine wp_region_held_drew (S := (fun w' => w'.cell? ⟨w.heap.size, 0, none⟩ = some (.int .i64 2) ∧ w'.cell? ⟨w.heap.size, 1, none⟩ = some (.int .u8 e.op) ∧ w'.cell? ⟨w.heap.size, 2, none⟩ = some (.string e.var) ∧ w'.cell? ⟨w.heap.size, 3, none⟩ = some (.int .i64 e.val.kind) ∧ w'.cell? ⟨w.heap.size, 4, none⟩ = some (.int .i64 e.val.num) ∧ w'.cell? ⟨w.heap.size, 5, none⟩ = some (.string e.val.sym) ∧ w'.cell? ⟨w.heap.size, 6, none⟩ = some (.int .i64 e.a) ∧ w'.cell? ⟨w.heap.size, 7, none⟩ = some (.int .i64 e.b))) (by kernel_rfl) ?_ (fun hHeld => ?_)
  · (try dsimp only)
    (go_split_ands; refine ⟨?_, ?_, ?_, ?_, ?_, ?_, ?_, ?_⟩ <;> first | (simp [go_sem]; done) | exact cell_below hb' (by assumption))
  refine wpAnyH_take (i := 0) (oi := ?oi1126) (v := ?v1126) ?hi1126 (by kernel_rfl) (by kernel_rfl) (by kernel_rfl) (fun _ _ _ h => h) (Or.inl ⟨?wd1126, ?hy1126⟩) hHeld ?rest1126
  case hi1126 => (simp only [List.getElem?_toArray, List.getElem?_cons_zero]; rfl)
  case wd1126 => rfl
  case hy1126 => (intro w hSw; (try dsimp only at hSw); go_simp; try with_reducible rfl)
  (try simp only [Act.put, List.setIfInBounds_toArray, List.set_cons_zero, List.set_cons_succ])
  refine wpAnyH_take (i := 1) (oi := ?oi1127) (v := ?v1127) ?hi1127 (by kernel_rfl) (by kernel_rfl) (by kernel_rfl) (fun _ _ _ h => h) (Or.inl ⟨?wd1127, ?hy1127⟩) hHeld ?rest1127
  case hi1127 => (simp only [List.getElem?_toArray, List.getElem?_cons_succ, List.getElem?_cons_zero]; rfl)
  case wd1127 => rfl
  case hy1127 => (intro w hSw; (try dsimp only at hSw); go_simp; try with_reducible rfl)
  (try simp only [Act.put, List.setIfInBounds_toArray, List.set_cons_zero, List.set_cons_succ])
  refine wpAnyH_ready (rs := [2, 4]) (by kernel_rfl) (by simp) ?_
  refine AllReadyH.cons (o := ?o1128) ?ho1128 (fun K hK => ?step1128) (AllReadyH.cons (o := ?o1129) ?ho1129 (fun K hK => ?step1129) AllReadyH.nil)
  case ho1128 => (simp only [List.getElem?_toArray, List.getElem?_cons_succ, List.getElem?_cons_zero]; rfl)
  case ho1129 => (simp only [List.getElem?_toArray, List.getElem?_cons_succ, List.getElem?_cons_zero]; rfl)
  case step1128 =>
    go_simp
    refine hK.out _ _ ?hS1130 (fun hHeld' => ?rest1130)
    case hS1130 => ((try dsimp only); (go_split_ands; refine ⟨?_, ?_, ?_, ?_, ?_, ?_, ?_, ?_⟩ <;> first | (simp [go_sem]; done) | exact cell_below hb' (by assumption)))
    clear hK K
    (try simp only [Act.put, List.setIfInBounds_toArray, List.set_cons_zero, List.set_cons_succ])
    clear hHeld
    have hHeld := hHeld'
    clear hHeld'
    refine wpAnyH_ready (rs := [3, 4]) (by kernel_rfl) (by simp) ?_
    refine AllReadyH.cons (o := ?o1131) ?ho1131 (fun K hK => ?step1131) (AllReadyH.cons (o := ?o1132) ?ho1132 (fun K hK => ?step1132) AllReadyH.nil)
    case ho1131 => (simp only [List.getElem?_toArray, List.getElem?_cons_succ, List.getElem?_cons_zero]; rfl)
    case ho1132 => (simp only [List.getElem?_toArray, List.getElem?_cons_succ, List.getElem?_cons_zero]; rfl)
    case step1131 =>
      go_simp
      refine hK.out _ _ ?hS1133 (fun hHeld' => ?rest1133)
      case hS1133 => ((try dsimp only); (go_split_ands; refine ⟨?_, ?_, ?_, ?_, ?_, ?_, ?_, ?_⟩ <;> first | (simp [go_sem]; done) | exact cell_below hb' (by assumption)))
      clear hK K
      (try simp only [Act.put, List.setIfInBounds_toArray, List.set_cons_zero, List.set_cons_succ])
      clear hHeld
      have hHeld := hHeld'
      clear hHeld'
      refine wpAnyH_ready (rs := [4]) (by kernel_rfl) (by simp) ?_
      refine AllReadyH.cons (o := ?o1134) ?ho1134 (fun K hK => ?step1134) AllReadyH.nil
      case ho1134 => (simp only [List.getElem?_toArray, List.getElem?_cons_succ, List.getElem?_cons_zero]; rfl)
      go_simp
      (go_at_call 100; refine (l2Ariths_any _).mono ?_; rintro e' w' ⟨rfl, rfl⟩)
      (try go_wp2_with fail)
      refine hK.out _ _ ?hS1135 (fun hHeld' => ?rest1135)
      case hS1135 => ((try dsimp only); (go_split_ands; refine ⟨?_, ?_, ?_, ?_, ?_, ?_, ?_, ?_⟩ <;> first | (simp [go_sem]; done) | exact cell_below hb' (by assumption)))
      clear hK K
      (try simp only [Act.put, List.setIfInBounds_toArray, List.set_cons_zero, List.set_cons_succ])
      clear hHeld
      have hHeld := hHeld'
      clear hHeld'
      refine wpAnyH_ready (rs := [5]) (by kernel_rfl) (by simp) ?_
      refine AllReadyH.cons (o := ?o1136) ?ho1136 (fun K hK => ?step1136) AllReadyH.nil
      case ho1136 => (simp only [List.getElem?_toArray, List.getElem?_cons_succ, List.getElem?_cons_zero]; rfl)
      go_simp
      (go_at_call 82; refine (hIs.out _ _ ?_).mono ?_; (first | exact ar_new _ _ _ (by simp) | exact ar_old _ _ _ _ (by simp)); rintro e' w' ⟨rfl, rfl⟩)
      (try go_wp2_with fail)
      refine hK.out _ _ ?hS1137 (fun hHeld' => ?rest1137)
      case hS1137 => ((try dsimp only); (go_split_ands; refine ⟨?_, ?_, ?_, ?_, ?_, ?_, ?_, ?_⟩ <;> first | (simp [go_sem]; done) | exact cell_below hb' (by assumption)))
      clear hK K
      (try simp only [Act.put, List.setIfInBounds_toArray, List.set_cons_zero, List.set_cons_succ])
      clear hHeld
      have hHeld := hHeld'
      clear hHeld'
      refine wpAnyH_take (i := 6) (oi := ?oi1138) (v := ?v1138) ?hi1138 (by kernel_rfl) (by kernel_rfl) (by kernel_rfl) (fun _ _ _ h => h) (Or.inl ⟨?wd1138, ?hy1138⟩) hHeld ?rest1138
      case hi1138 => (simp only [List.getElem?_toArray, List.getElem?_cons_succ, List.getElem?_cons_zero]; rfl)
      case wd1138 => rfl
      case hy1138 => (intro w hSw; (try dsimp only at hSw); go_simp; try with_reducible rfl)
      (try simp only [Act.put, List.setIfInBounds_toArray, List.set_cons_zero, List.set_cons_succ])
      refine wpAnyH_take (i := 7) (oi := ?oi1139) (v := ?v1139) ?hi1139 (by kernel_rfl) (by kernel_rfl) (by kernel_rfl) (fun _ _ _ h => h) (Or.inl ⟨?wd1139, ?hy1139⟩) hHeld ?rest1139
      case hi1139 => (simp only [List.getElem?_toArray, List.getElem?_cons_succ, List.getElem?_cons_zero]; rfl)
      case wd1139 => rfl
      case hy1139 => (intro w hSw; (try dsimp only at hSw); go_simp; try with_reducible rfl)
      (try simp only [Act.put, List.setIfInBounds_toArray, List.set_cons_zero, List.set_cons_succ])
      refine wpAnyH_take (i := 8) (oi := ?oi1140) (v := ?v1140) ?hi1140 (by kernel_rfl) (by kernel_rfl) (by kernel_rfl) (fun _ _ _ h => h) (Or.inl ⟨?wd1140, ?hy1140⟩) hHeld ?rest1140
      case hi1140 => (simp only [List.getElem?_toArray, List.getElem?_cons_succ, List.getElem?_cons_zero]; rfl)
      case wd1140 => rfl
      case hy1140 => (intro w hSw; (try dsimp only at hSw); go_simp; try with_reducible rfl)
      (try simp only [Act.put, List.setIfInBounds_toArray, List.set_cons_zero, List.set_cons_succ])
      refine wpAnyH_take (i := 9) (oi := ?oi1141) (v := ?v1141) ?hi1141 (by kernel_rfl) (by kernel_rfl) (by kernel_rfl) (fun _ _ _ h => h) (Or.inl ⟨?wd1141, ?hy1141⟩) hHeld ?rest1141
      case hi1141 => (simp only [List.getElem?_toArray, List.getElem?_cons_succ, List.getElem?_cons_zero]; rfl)
      case wd1141 => rfl
      case hy1141 => (intro w hSw; (try dsimp only at hSw); go_simp; try with_reducible rfl)
      (try simp only [Act.put, List.setIfInBounds_toArray, List.set_cons_zero, List.set_cons_succ])
      refine wpAnyH_take (i := 10) (oi := ?oi1142) (v := ?v1142) ?hi1142 (by kernel_rfl) (by kernel_rfl) (by kernel_rfl) (fun _ _ _ h => h) (Or.inl ⟨?wd1142, ?hy1142⟩) hHeld ?rest1142
      case hi1142 => (simp only [List.getElem?_toArray, List.getElem?_cons_succ, List.getElem?_cons_zero]; rfl)
      case wd1142 => rfl
      case hy1142 => (intro w hSw; (try dsimp only at hSw); go_simp; try with_reducible rfl)
      (try simp only [Act.put, List.setIfInBounds_toArray, List.set_cons_zero, List.set_cons_succ])
      refine wpAnyH_take (i := 11) (oi := ?oi1143) (v := ?v1143) ?hi1143 (by kernel_rfl) (by kernel_rfl) (by kernel_rfl) (fun _ _ _ h => h) (Or.inl ⟨?wd1143, ?hy1143⟩) hHeld ?rest1143
      case hi1143 => (simp only [List.getElem?_toArray, List.getElem?_cons_succ, List.getElem?_cons_zero]; rfl)
      case wd1143 => rfl
      case hy1143 => (intro w hSw; (try dsimp only at hSw); go_simp; try with_reducible rfl)
      (try simp only [Act.put, List.setIfInBounds_toArray, List.set_cons_zero, List.set_cons_succ])
      refine wpAnyH_take (i := 12) (oi := ?oi1144) (v := ?v1144) ?hi1144 (by kernel_rfl) (by kernel_rfl) (by kernel_rfl) (fun _ _ _ h => h) (Or.inl ⟨?wd1144, ?hy1144⟩) hHeld ?rest1144
      case hi1144 => (simp only [List.getElem?_toArray, List.getElem?_cons_succ, List.getElem?_cons_zero]; rfl)
      case wd1144 => rfl
      case hy1144 => (intro w hSw; (try dsimp only at hSw); go_simp; try with_reducible rfl)
      (try simp only [Act.put, List.setIfInBounds_toArray, List.set_cons_zero, List.set_cons_succ])
      refine wpAnyH_take (i := 13) (oi := ?oi1145) (v := ?v1145) ?hi1145 (by kernel_rfl) (by kernel_rfl) (by kernel_rfl) (fun _ _ _ h => h) (Or.inl ⟨?wd1145, ?hy1145⟩) hHeld ?rest1145
      case hi1145 => (simp only [List.getElem?_toArray, List.getElem?_cons_succ, List.getElem?_cons_zero]; rfl)
      case wd1145 => rfl
      case hy1145 => (intro w hSw; (try dsimp only at hSw); go_simp; try with_reducible rfl)
      (try simp only [Act.put, List.setIfInBounds_toArray, List.set_cons_zero, List.set_cons_succ])
      refine wpAnyH_take (i := 14) (oi := ?oi1146) (v := ?v1146) ?hi1146 (by kernel_rfl) (by kernel_rfl) (by kernel_rfl) (fun _ _ _ h => h) (Or.inl ⟨?wd1146, ?hy1146⟩) hHeld ?rest1146
      case hi1146 => (simp only [List.getElem?_toArray, List.getElem?_cons_succ, List.getElem?_cons_zero]; rfl)
      case wd1146 => rfl
      case hy1146 => (intro w hSw; (try dsimp only at hSw); go_simp; try with_reducible rfl)
      (try simp only [Act.put, List.setIfInBounds_toArray, List.set_cons_zero, List.set_cons_succ])
      refine wpAnyH_ready (rs := [15]) (by kernel_rfl) (by simp) ?_
      refine AllReadyH.cons (o := ?o1147) ?ho1147 (fun K hK => ?step1147) AllReadyH.nil
      case ho1147 => (simp only [List.getElem?_toArray, List.getElem?_cons_succ, List.getElem?_cons_zero]; rfl)
      go_simp
      (go_at_call 84; refine (hZ.out _).mono ?_; rintro e' w' ⟨rfl, hb'⟩)
      (try go_wp2_with fail)
      refine hK.out _ _ ?hS1148 (fun hHeld' => ?rest1148)
      case hS1148 => ((try dsimp only); (go_split_ands; refine ⟨?_, ?_, ?_, ?_, ?_, ?_, ?_, ?_⟩ <;> first | (simp [go_sem]; done) | exact cell_below hb' (by assumption)))
      clear hK K
      (try simp only [Act.put, List.setIfInBounds_toArray, List.set_cons_zero, List.set_cons_succ])
      clear hHeld
      have hHeld := hHeld'
      clear hHeld'
      refine wpAnyH_take (i := 16) (oi := ?oi1149) (v := ?v1149) ?hi1149 (by kernel_rfl) (by kernel_rfl) (by kernel_rfl) (fun _ _ _ h => h) (Or.inl ⟨?wd1149, ?hy1149⟩) hHeld ?rest1149
      case hi1149 => (simp only [List.getElem?_toArray, List.getElem?_cons_succ, List.getElem?_cons_zero]; rfl)
      case wd1149 => rfl
      case hy1149 => (intro w hSw; (try dsimp only at hSw); go_simp; try with_reducible rfl)
      (try simp only [Act.put, List.setIfInBounds_toArray, List.set_cons_zero, List.set_cons_succ])
      refine wpAnyH_take (i := 17) (oi := ?oi1150) (v := ?v1150) ?hi1150 (by kernel_rfl) (by kernel_rfl) (by kernel_rfl) (fun _ _ _ h => h) (Or.inl ⟨?wd1150, ?hy1150⟩) hHeld ?rest1150
      case hi1150 => (simp only [List.getElem?_toArray, List.getElem?_cons_succ, List.getElem?_cons_zero]; rfl)
      case wd1150 => rfl
      case hy1150 => (intro w hSw; (try dsimp only at hSw); go_simp; try with_reducible rfl)
      (try simp only [Act.put, List.setIfInBounds_toArray, List.set_cons_zero, List.set_cons_succ])
      refine wpAnyH_take (i := 18) (oi := ?oi1151) (v := ?v1151) ?hi1151 (by kernel_rfl) (by kernel_rfl) (by kernel_rfl) (fun _ _ _ h => h) (Or.inl ⟨?wd1151, ?hy1151⟩) hHeld ?rest1151
      case hi1151 => (simp only [List.getElem?_toArray, List.getElem?_cons_succ, List.getElem?_cons_zero]; rfl)
      case wd1151 => rfl
      case hy1151 => (intro w hSw; (try dsimp only at hSw); go_simp; try with_reducible rfl)
      (try simp only [Act.put, List.setIfInBounds_toArray, List.set_cons_zero, List.set_cons_succ])
      refine wpAnyH_take (i := 19) (oi := ?oi1152) (v := ?v1152) ?hi1152 (by kernel_rfl) (by kernel_rfl) (by kernel_rfl) (fun _ _ _ h => h) (Or.inl ⟨?wd1152, ?hy1152⟩) hHeld ?rest1152
      case hi1152 => (simp only [List.getElem?_toArray, List.getElem?_cons_succ, List.getElem?_cons_zero]; rfl)
      case wd1152 => rfl
      case hy1152 => (intro w hSw; (try dsimp only at hSw); go_simp; try with_reducible rfl)
      (try simp only [Act.put, List.setIfInBounds_toArray, List.set_cons_zero, List.set_cons_succ])
      refine wpAnyH_take (i := 20) (oi := ?oi1153) (v := ?v1153) ?hi1153 (by kernel_rfl) (by kernel_rfl) (by kernel_rfl) (fun _ _ _ h => h) (Or.inl ⟨?wd1153, ?hy1153⟩) hHeld ?rest1153
      case hi1153 => (simp only [List.getElem?_toArray, List.getElem?_cons_succ, List.getElem?_cons_zero]; rfl)
      case wd1153 => rfl
      case hy1153 => (intro w hSw; (try dsimp only at hSw); go_simp; try with_reducible rfl)
      (try simp only [Act.put, List.setIfInBounds_toArray, List.set_cons_zero, List.set_cons_succ])
      refine wpAnyH_take (i := 21) (oi := ?oi1154) (v := ?v1154) ?hi1154 (by kernel_rfl) (by kernel_rfl) (by kernel_rfl) (fun _ _ _ h => h) (Or.inl ⟨?wd1154, ?hy1154⟩) hHeld ?rest1154
      case hi1154 => (simp only [List.getElem?_toArray, List.getElem?_cons_succ, List.getElem?_cons_zero]; rfl)
      case wd1154 => rfl
      case hy1154 => (intro w hSw; (try dsimp only at hSw); go_simp; try with_reducible rfl)
      (try simp only [Act.put, List.setIfInBounds_toArray, List.set_cons_zero, List.set_cons_succ])
      refine wpAnyH_take (i := 22) (oi := ?oi1155) (v := ?v1155) ?hi1155 (by kernel_rfl) (by kernel_rfl) (by kernel_rfl) (fun _ _ _ h => h) (Or.inl ⟨?wd1155, ?hy1155⟩) hHeld ?rest1155
      case hi1155 => (simp only [List.getElem?_toArray, List.getElem?_cons_succ, List.getElem?_cons_zero]; rfl)
      case wd1155 => rfl
      case hy1155 => (intro w hSw; (try dsimp only at hSw); go_simp; try with_reducible rfl)
      (try simp only [Act.put, List.setIfInBounds_toArray, List.set_cons_zero, List.set_cons_succ])
      refine wpAnyH_take (i := 23) (oi := ?oi1156) (v := ?v1156) ?hi1156 (by kernel_rfl) (by kernel_rfl) (by kernel_rfl) (fun _ _ _ h => h) (Or.inl ⟨?wd1156, ?hy1156⟩) hHeld ?rest1156
      case hi1156 => (simp only [List.getElem?_toArray, List.getElem?_cons_succ, List.getElem?_cons_zero]; rfl)
      case wd1156 => rfl
      case hy1156 => (intro w hSw; (try dsimp only at hSw); go_simp; try with_reducible rfl)
      (try simp only [Act.put, List.setIfInBounds_toArray, List.set_cons_zero, List.set_cons_succ])
      refine wpAnyH_take (i := 24) (oi := ?oi1157) (v := ?v1157) ?hi1157 (by kernel_rfl) (by kernel_rfl) (by kernel_rfl) (fun _ _ _ h => h) (Or.inl ⟨?wd1157, ?hy1157⟩) hHeld ?rest1157
      case hi1157 => (simp only [List.getElem?_toArray, List.getElem?_cons_succ, List.getElem?_cons_zero]; rfl)
      case wd1157 => rfl
      case hy1157 => (intro w hSw; (try dsimp only at hSw); go_simp; try with_reducible rfl)
      (try simp only [Act.put, List.setIfInBounds_toArray, List.set_cons_zero, List.set_cons_succ])
      refine wpAnyH_take (i := 25) (oi := ?oi1158) (v := ?v1158) ?hi1158 (by kernel_rfl) (by kernel_rfl) (by kernel_rfl) (fun _ _ _ h => h) (Or.inl ⟨?wd1158, ?hy1158⟩) hHeld ?rest1158
      case hi1158 => (simp only [List.getElem?_toArray, List.getElem?_cons_succ, List.getElem?_cons_zero]; rfl)
      case wd1158 => rfl
      case hy1158 => (intro w hSw; (try dsimp only at hSw); go_simp; try with_reducible rfl)
      (try simp only [Act.put, List.setIfInBounds_toArray, List.set_cons_zero, List.set_cons_succ])
      refine wpAnyH_take (i := 26) (oi := ?oi1159) (v := ?v1159) ?hi1159 (by kernel_rfl) (by kernel_rfl) (by kernel_rfl) (fun _ _ _ h => h) (Or.inl ⟨?wd1159, ?hy1159⟩) hHeld ?rest1159
      case hi1159 => (simp only [List.getElem?_toArray, List.getElem?_cons_succ, List.getElem?_cons_zero]; rfl)
      case wd1159 => rfl
      case hy1159 => (intro w hSw; (try dsimp only at hSw); go_simp; try with_reducible rfl)
      (try simp only [Act.put, List.setIfInBounds_toArray, List.set_cons_zero, List.set_cons_succ])
      refine wpAnyH_take (i := 27) (oi := ?oi1160) (v := ?v1160) ?hi1160 (by kernel_rfl) (by kernel_rfl) (by kernel_rfl) (fun _ _ _ h => h) (Or.inl ⟨?wd1160, ?hy1160⟩) hHeld ?rest1160
      case hi1160 => (simp only [List.getElem?_toArray, List.getElem?_cons_succ, List.getElem?_cons_zero]; rfl)
      case wd1160 => rfl
      case hy1160 => (intro w hSw; (try dsimp only at hSw); go_simp; try with_reducible rfl)
      (try simp only [Act.put, List.setIfInBounds_toArray, List.set_cons_zero, List.set_cons_succ])
      refine wpAnyH_take (i := 28) (oi := ?oi1161) (v := ?v1161) ?hi1161 (by kernel_rfl) (by kernel_rfl) (by kernel_rfl) (fun _ _ _ h => h) (Or.inl ⟨?wd1161, ?hy1161⟩) hHeld ?rest1161
      case hi1161 => (simp only [List.getElem?_toArray, List.getElem?_cons_succ, List.getElem?_cons_zero]; rfl)
      case wd1161 => rfl
      case hy1161 => (intro w hSw; (try dsimp only at hSw); go_simp; try with_reducible rfl)
      (try simp only [Act.put, List.setIfInBounds_toArray, List.set_cons_zero, List.set_cons_succ])
      refine wpAnyH_take (i := 29) (oi := ?oi1162) (v := ?v1162) ?hi1162 (by kernel_rfl) (by kernel_rfl) (by kernel_rfl) (fun _ _ _ h => h) (Or.inl ⟨?wd1162, ?hy1162⟩) hHeld ?rest1162
      case hi1162 => (simp only [List.getElem?_toArray, List.getElem?_cons_succ, List.getElem?_cons_zero]; rfl)
      case wd1162 => rfl
      case hy1162 => (intro w hSw; (try dsimp only at hSw); go_simp; try with_reducible rfl)
      (try simp only [Act.put, List.setIfInBounds_toArray, List.set_cons_zero, List.set_cons_succ])
      refine wpAnyH_take (i := 30) (oi := ?oi1163) (v := ?v1163) ?hi1163 (by kernel_rfl) (by kernel_rfl) (by kernel_rfl) (fun _ _ _ h => h) (Or.inl ⟨?wd1163, ?hy1163⟩) hHeld ?rest1163
      case hi1163 => (simp only [List.getElem?_toArray, List.getElem?_cons_succ, List.getElem?_cons_zero]; rfl)
      case wd1163 => rfl
      case hy1163 => (intro w hSw; (try dsimp only at hSw); go_simp; try with_reducible rfl)
      (try simp only [Act.put, List.setIfInBounds_toArray, List.set_cons_zero, List.set_cons_succ])
      refine wpAnyH_take (i := 31) (oi := ?oi1164) (v := ?v1164) ?hi1164 (by kernel_rfl) (by kernel_rfl) (by kernel_rfl) (fun _ _ _ h => h) (Or.inl ⟨?wd1164, ?hy1164⟩) hHeld ?rest1164
      case hi1164 => (simp only [List.getElem?_toArray, List.getElem?_cons_succ, List.getElem?_cons_zero]; rfl)
      case wd1164 => rfl
      case hy1164 => (intro w hSw; (try dsimp only at hSw); go_simp; try with_reducible rfl)
      (try simp only [Act.put, List.setIfInBounds_toArray, List.set_cons_zero, List.set_cons_succ])
      refine wpAnyH_take (i := 32) (oi := ?oi1165) (v := ?v1165) ?hi1165 (by kernel_rfl) (by kernel_rfl) (by kernel_rfl) (fun _ _ _ h => h) (Or.inl ⟨?wd1165, ?hy1165⟩) hHeld ?rest1165
      case hi1165 => (simp only [List.getElem?_toArray, List.getElem?_cons_succ, List.getElem?_cons_zero]; rfl)
      case wd1165 => rfl
      case hy1165 => (intro w hSw; (try dsimp only at hSw); go_simp; try with_reducible rfl)
      (try simp only [Act.put, List.setIfInBounds_toArray, List.set_cons_zero, List.set_cons_succ])
      refine wpAnyH_take (i := 33) (oi := ?oi1166) (v := ?v1166) ?hi1166 (by kernel_rfl) (by kernel_rfl) (by kernel_rfl) (fun _ _ _ h => h) (Or.inl ⟨?wd1166, ?hy1166⟩) hHeld ?rest1166
      case hi1166 => (simp only [List.getElem?_toArray, List.getElem?_cons_succ, List.getElem?_cons_zero]; rfl)
      case wd1166 => rfl
      case hy1166 => (intro w hSw; (try dsimp only at hSw); go_simp; try with_reducible rfl)
      (try simp only [Act.put, List.setIfInBounds_toArray, List.set_cons_zero, List.set_cons_succ])
      refine wpAnyH_take (i := 34) (oi := ?oi1167) (v := ?v1167) ?hi1167 (by kernel_rfl) (by kernel_rfl) (by kernel_rfl) (fun _ _ _ h => h) (Or.inl ⟨?wd1167, ?hy1167⟩) hHeld ?rest1167
      case hi1167 => (simp only [List.getElem?_toArray, List.getElem?_cons_succ, List.getElem?_cons_zero]; rfl)
      case wd1167 => rfl
      case hy1167 => (intro w hSw; (try dsimp only at hSw); go_simp; try with_reducible rfl)
      (try simp only [Act.put, List.setIfInBounds_toArray, List.set_cons_zero, List.set_cons_succ])
      refine wpAnyH_done (by kernel_rfl) ?_ _
      refine NoPanic.normal ?_
      obtain ⟨y0, y1, y2, y3, y4, y5, y6, y7⟩ := hHeld
      have hBz : Below w.heap.size w w' := (B3 _ _ _).trans (hb'.mono (by simp; omega))
      have hE := hidSF (hv0.below hBz)
      clear hb' hv0
      go_wp2
      go_quiet (first | (go_at_call 83; refine Calls.quiet_of_same (hF.out _ (hE.out.below ?_)); exact below_drewN' (Below.refl _ _)) | (go_at_call 101; refine Calls.quiet_of_same (hDp.out _ (hE.out.below ?_)); exact below_drewN' (Below.refl _ _)))
      go_wp2
      go_ret
      exact ⟨ret_bool (by simp; omega), below_drewN' hBz⟩
    case step1132 =>
      go_simp
      (go_at_call 100; refine (l2Ariths_any _).mono ?_; rintro e' w' ⟨rfl, rfl⟩)
      (try go_wp2_with fail)
      refine hK.out _ _ ?hS1168 (fun hHeld' => ?rest1168)
      case hS1168 => ((try dsimp only); (go_split_ands; refine ⟨?_, ?_, ?_, ?_, ?_, ?_, ?_, ?_⟩ <;> first | (simp [go_sem]; done) | exact cell_below hb' (by assumption)))
      clear hK K
      (try simp only [Act.put, List.setIfInBounds_toArray, List.set_cons_zero, List.set_cons_succ])
      clear hHeld
      have hHeld := hHeld'
      clear hHeld'
      refine wpAnyH_ready (rs := [3]) (by kernel_rfl) (by simp) ?_
      refine AllReadyH.cons (o := ?o1169) ?ho1169 (fun K hK => ?step1169) AllReadyH.nil
      case ho1169 => (simp only [List.getElem?_toArray, List.getElem?_cons_succ, List.getElem?_cons_zero]; rfl)
      go_simp
      refine hK.out _ _ ?hS1170 (fun hHeld' => ?rest1170)
      case hS1170 => ((try dsimp only); (go_split_ands; refine ⟨?_, ?_, ?_, ?_, ?_, ?_, ?_, ?_⟩ <;> first | (simp [go_sem]; done) | exact cell_below hb' (by assumption)))
      clear hK K
      (try simp only [Act.put, List.setIfInBounds_toArray, List.set_cons_zero, List.set_cons_succ])
      clear hHeld
      have hHeld := hHeld'
      clear hHeld'
      refine wpAnyH_ready (rs := [5]) (by kernel_rfl) (by simp) ?_
      refine AllReadyH.cons (o := ?o1171) ?ho1171 (fun K hK => ?step1171) AllReadyH.nil
      case ho1171 => (simp only [List.getElem?_toArray, List.getElem?_cons_succ, List.getElem?_cons_zero]; rfl)
      go_simp
      (go_at_call 82; refine (hIs.out _ _ ?_).mono ?_; (first | exact ar_new _ _ _ (by simp) | exact ar_old _ _ _ _ (by simp)); rintro e' w' ⟨rfl, rfl⟩)
      (try go_wp2_with fail)
      refine hK.out _ _ ?hS1172 (fun hHeld' => ?rest1172)
      case hS1172 => ((try dsimp only); (go_split_ands; refine ⟨?_, ?_, ?_, ?_, ?_, ?_, ?_, ?_⟩ <;> first | (simp [go_sem]; done) | exact cell_below hb' (by assumption)))
      clear hK K
      (try simp only [Act.put, List.setIfInBounds_toArray, List.set_cons_zero, List.set_cons_succ])
      clear hHeld
      have hHeld := hHeld'
      clear hHeld'
      refine wpAnyH_take (i := 6) (oi := ?oi1173) (v := ?v1173) ?hi1173 (by kernel_rfl) (by kernel_rfl) (by kernel_rfl) (fun _ _ _ h => h) (Or.inl ⟨?wd1173, ?hy1173⟩) hHeld ?rest1173
      case hi1173 => (simp only [List.getElem?_toArray, List.getElem?_cons_succ, List.getElem?_cons_zero]; rfl)
      case wd1173 => rfl
      case hy1173 => (intro w hSw; (try dsimp only at hSw); go_simp; try with_reducible rfl)
      (try simp only [Act.put, List.setIfInBounds_toArray, List.set_cons_zero, List.set_cons_succ])
      refine wpAnyH_take (i := 7) (oi := ?oi1174) (v := ?v1174) ?hi1174 (by kernel_rfl) (by kernel_rfl) (by kernel_rfl) (fun _ _ _ h => h) (Or.inl ⟨?wd1174, ?hy1174⟩) hHeld ?rest1174
      case hi1174 => (simp only [List.getElem?_toArray, List.getElem?_cons_succ, List.getElem?_cons_zero]; rfl)
      case wd1174 => rfl
      case hy1174 => (intro w hSw; (try dsimp only at hSw); go_simp; try with_reducible rfl)
      (try simp only [Act.put, List.setIfInBounds_toArray, List.set_cons_zero, List.set_cons_succ])
      refine wpAnyH_take (i := 8) (oi := ?oi1175) (v := ?v1175) ?hi1175 (by kernel_rfl) (by kernel_rfl) (by kernel_rfl) (fun _ _ _ h => h) (Or.inl ⟨?wd1175, ?hy1175⟩) hHeld ?rest1175
      case hi1175 => (simp only [List.getElem?_toArray, List.getElem?_cons_succ, List.getElem?_cons_zero]; rfl)
      case wd1175 => rfl
      case hy1175 => (intro w hSw; (try dsimp only at hSw); go_simp; try with_reducible rfl)
      (try simp only [Act.put, List.setIfInBounds_toArray, List.set_cons_zero, List.set_cons_succ])
      refine wpAnyH_take (i := 9) (oi := ?oi1176) (v := ?v1176) ?hi1176 (by kernel_rfl) (by kernel_rfl) (by kernel_rfl) (fun _ _ _ h => h) (Or.inl ⟨?wd1176, ?hy1176⟩) hHeld ?rest1176
      case hi1176 => (simp only [List.getElem?_toArray, List.getElem?_cons_succ, List.getElem?_cons_zero]; rfl)
      case wd1176 => rfl
      case hy1176 => (intro w hSw; (try dsimp only at hSw); go_simp; try with_reducible rfl)
      (try simp only [Act.put, List.setIfInBounds_toArray, List.set_cons_zero, List.set_cons_succ])
      refine wpAnyH_take (i := 10) (oi := ?oi1177) (v := ?v1177) ?hi1177 (by kernel_rfl) (by kernel_rfl) (by kernel_rfl) (fun _ _ _ h => h) (Or.inl ⟨?wd1177, ?hy1177⟩) hHeld ?rest1177
      case hi1177 => (simp only [List.getElem?_toArray, List.getElem?_cons_succ, List.getElem?_cons_zero]; rfl)
      case wd1177 => rfl
      case hy1177 => (intro w hSw; (try dsimp only at hSw); go_simp; try with_reducible rfl)
      (try simp only [Act.put, List.setIfInBounds_toArray, List.set_cons_zero, List.set_cons_succ])
      refine wpAnyH_take (i := 11) (oi := ?oi1178) (v := ?v1178) ?hi1178 (by kernel_rfl) (by kernel_rfl) (by kernel_rfl) (fun _ _ _ h => h) (Or.inl ⟨?wd1178, ?hy1178⟩) hHeld ?rest1178
      case hi1178 => (simp only [List.getElem?_toArray, List.getElem?_cons_succ, List.getElem?_cons_zero]; rfl)
      case wd1178 => rfl
      case hy1178 => (intro w hSw; (try dsimp only at hSw); go_simp; try with_reducible rfl)
      (try simp only [Act.put, List.setIfInBounds_toArray, List.set_cons_zero, List.set_cons_succ])
      refine wpAnyH_take (i := 12) (oi := ?oi1179) (v := ?v1179) ?hi1179 (by kernel_rfl) (by kernel_rfl) (by kernel_rfl) (fun _ _ _ h => h) (Or.inl ⟨?wd1179, ?hy1179⟩) hHeld ?rest1179
      case hi1179 => (simp only [List.getElem?_toArray, List.getElem?_cons_succ, List.getElem?_cons_zero]; rfl)
      case wd1179 => rfl
      case hy1179 => (intro w hSw; (try dsimp only at hSw); go_simp; try with_reducible rfl)
      (try simp only [Act.put, List.setIfInBounds_toArray, List.set_cons_zero, List.set_cons_succ])
      refine wpAnyH_take (i := 13) (oi := ?oi1180) (v := ?v1180) ?hi1180 (by kernel_rfl) (by kernel_rfl) (by kernel_rfl) (fun _ _ _ h => h) (Or.inl ⟨?wd1180, ?hy1180⟩) hHeld ?rest1180
      case hi1180 => (simp only [List.getElem?_toArray, List.getElem?_cons_succ, List.getElem?_cons_zero]; rfl)
      case wd1180 => rfl
      case hy1180 => (intro w hSw; (try dsimp only at hSw); go_simp; try with_reducible rfl)
      (try simp only [Act.put, List.setIfInBounds_toArray, List.set_cons_zero, List.set_cons_succ])
      refine wpAnyH_take (i := 14) (oi := ?oi1181) (v := ?v1181) ?hi1181 (by kernel_rfl) (by kernel_rfl) (by kernel_rfl) (fun _ _ _ h => h) (Or.inl ⟨?wd1181, ?hy1181⟩) hHeld ?rest1181
      case hi1181 => (simp only [List.getElem?_toArray, List.getElem?_cons_succ, List.getElem?_cons_zero]; rfl)
      case wd1181 => rfl
      case hy1181 => (intro w hSw; (try dsimp only at hSw); go_simp; try with_reducible rfl)
      (try simp only [Act.put, List.setIfInBounds_toArray, List.set_cons_zero, List.set_cons_succ])
      refine wpAnyH_ready (rs := [15]) (by kernel_rfl) (by simp) ?_
      refine AllReadyH.cons (o := ?o1182) ?ho1182 (fun K hK => ?step1182) AllReadyH.nil
      case ho1182 => (simp only [List.getElem?_toArray, List.getElem?_cons_succ, List.getElem?_cons_zero]; rfl)
      go_simp
      (go_at_call 84; refine (hZ.out _).mono ?_; rintro e' w' ⟨rfl, hb'⟩)
      (try go_wp2_with fail)
      refine hK.out _ _ ?hS1183 (fun hHeld' => ?rest1183)
      case hS1183 => ((try dsimp only); (go_split_ands; refine ⟨?_, ?_, ?_, ?_, ?_, ?_, ?_, ?_⟩ <;> first | (simp [go_sem]; done) | exact cell_below hb' (by assumption)))
      clear hK K
      (try simp only [Act.put, List.setIfInBounds_toArray, List.set_cons_zero, List.set_cons_succ])
      clear hHeld
      have hHeld := hHeld'
      clear hHeld'
      refine wpAnyH_take (i := 16) (oi := ?oi1184) (v := ?v1184) ?hi1184 (by kernel_rfl) (by kernel_rfl) (by kernel_rfl) (fun _ _ _ h => h) (Or.inl ⟨?wd1184, ?hy1184⟩) hHeld ?rest1184
      case hi1184 => (simp only [List.getElem?_toArray, List.getElem?_cons_succ, List.getElem?_cons_zero]; rfl)
      case wd1184 => rfl
      case hy1184 => (intro w hSw; (try dsimp only at hSw); go_simp; try with_reducible rfl)
      (try simp only [Act.put, List.setIfInBounds_toArray, List.set_cons_zero, List.set_cons_succ])
      refine wpAnyH_take (i := 17) (oi := ?oi1185) (v := ?v1185) ?hi1185 (by kernel_rfl) (by kernel_rfl) (by kernel_rfl) (fun _ _ _ h => h) (Or.inl ⟨?wd1185, ?hy1185⟩) hHeld ?rest1185
      case hi1185 => (simp only [List.getElem?_toArray, List.getElem?_cons_succ, List.getElem?_cons_zero]; rfl)
      case wd1185 => rfl
      case hy1185 => (intro w hSw; (try dsimp only at hSw); go_simp; try with_reducible rfl)
      (try simp only [Act.put, List.setIfInBounds_toArray, List.set_cons_zero, List.set_cons_succ])
      refine wpAnyH_take (i := 18) (oi := ?oi1186) (v := ?v1186) ?hi1186 (by kernel_rfl) (by kernel_rfl) (by kernel_rfl) (fun _ _ _ h => h) (Or.inl ⟨?wd1186, ?hy1186⟩) hHeld ?rest1186
      case hi1186 => (simp only [List.getElem?_toArray, List.getElem?_cons_succ, List.getElem?_cons_zero]; rfl)
      case wd1186 => rfl
      case hy1186 => (intro w hSw; (try dsimp only at hSw); go_simp; try with_reducible rfl)
      (try simp only [Act.put, List.setIfInBounds_toArray, List.set_cons_zero, List.set_cons_succ])
      refine wpAnyH_take (i := 19) (oi := ?oi1187) (v := ?v1187) ?hi1187 (by kernel_rfl) (by kernel_rfl) (by kernel_rfl) (fun _ _ _ h => h) (Or.inl ⟨?wd1187, ?hy1187⟩) hHeld ?rest1187
      case hi1187 => (simp only [List.getElem?_toArray, List.getElem?_cons_succ, List.getElem?_cons_zero]; rfl)
      case wd1187 => rfl
      case hy1187 => (intro w hSw; (try dsimp only at hSw); go_simp; try with_reducible rfl)
      (try simp only [Act.put, List.setIfInBounds_toArray, List.set_cons_zero, List.set_cons_succ])
      refine wpAnyH_take (i := 20) (oi := ?oi1188) (v := ?v1188) ?hi1188 (by kernel_rfl) (by kernel_rfl) (by kernel_rfl) (fun _ _ _ h => h) (Or.inl ⟨?wd1188, ?hy1188⟩) hHeld ?rest1188
      case hi1188 => (simp only [List.getElem?_toArray, List.getElem?_cons_succ, List.getElem?_cons_zero]; rfl)
      case wd1188 => rfl
      case hy1188 => (intro w hSw; (try dsimp only at hSw); go_simp; try with_reducible rfl)
      (try simp only [Act.put, List.setIfInBounds_toArray, List.set_cons_zero, List.set_cons_succ])
      refine wpAnyH_take (i := 21) (oi := ?oi1189) (v := ?v1189) ?hi1189 (by kernel_rfl) (by kernel_rfl) (by kernel_rfl) (fun _ _ _ h => h) (Or.inl ⟨?wd1189, ?hy1189⟩) hHeld ?rest1189
      case hi1189 => (simp only [List.getElem?_toArray, List.getElem?_cons_succ, List.getElem?_cons_zero]; rfl)
      case wd1189 => rfl
      case hy1189 => (intro w hSw; (try dsimp only at hSw); go_simp; try with_reducible rfl)
      (try simp only [Act.put, List.setIfInBounds_toArray, List.set_cons_zero, List.set_cons_succ])
      refine wpAnyH_take (i := 22) (oi := ?oi1190) (v := ?v1190) ?hi1190 (by kernel_rfl) (by kernel_rfl) (by kernel_rfl) (fun _ _ _ h => h) (Or.inl ⟨?wd1190, ?hy1190⟩) hHeld ?rest1190
      case hi1190 => (simp only [List.getElem?_toArray, List.getElem?_cons_succ, List.getElem?_cons_zero]; rfl)
      case wd1190 => rfl
      case hy1190 => (intro w hSw; (try dsimp only at hSw); go_simp; try with_reducible rfl)
      (try simp only [Act.put, List.setIfInBounds_toArray, List.set_cons_zero, List.set_cons_succ])
      refine wpAnyH_take (i := 23) (oi := ?oi1191) (v := ?v1191) ?hi1191 (by kernel_rfl) (by kernel_rfl) (by kernel_rfl) (fun _ _ _ h => h) (Or.inl ⟨?wd1191, ?hy1191⟩) hHeld ?rest1191
      case hi1191 => (simp only [List.getElem?_toArray, List.getElem?_cons_succ, List.getElem?_cons_zero]; rfl)
      case wd1191 => rfl
      case hy1191 => (intro w hSw; (try dsimp only at hSw); go_simp; try with_reducible rfl)
      (try simp only [Act.put, List.setIfInBounds_toArray, List.set_cons_zero, List.set_cons_succ])
      refine wpAnyH_take (i := 24) (oi := ?oi1192) (v := ?v1192) ?hi1192 (by kernel_rfl) (by kernel_rfl) (by kernel_rfl) (fun _ _ _ h => h) (Or.inl ⟨?wd1192, ?hy1192⟩) hHeld ?rest1192
      case hi1192 => (simp only [List.getElem?_toArray, List.getElem?_cons_succ, List.getElem?_cons_zero]; rfl)
      case wd1192 => rfl
      case hy1192 => (intro w hSw; (try dsimp only at hSw); go_simp; try with_reducible rfl)
      (try simp only [Act.put, List.setIfInBounds_toArray, List.set_cons_zero, List.set_cons_succ])
      refine wpAnyH_take (i := 25) (oi := ?oi1193) (v := ?v1193) ?hi1193 (by kernel_rfl) (by kernel_rfl) (by kernel_rfl) (fun _ _ _ h => h) (Or.inl ⟨?wd1193, ?hy1193⟩) hHeld ?rest1193
      case hi1193 => (simp only [List.getElem?_toArray, List.getElem?_cons_succ, List.getElem?_cons_zero]; rfl)
      case wd1193 => rfl
      case hy1193 => (intro w hSw; (try dsimp only at hSw); go_simp; try with_reducible rfl)
      (try simp only [Act.put, List.setIfInBounds_toArray, List.set_cons_zero, List.set_cons_succ])
      refine wpAnyH_take (i := 26) (oi := ?oi1194) (v := ?v1194) ?hi1194 (by kernel_rfl) (by kernel_rfl) (by kernel_rfl) (fun _ _ _ h => h) (Or.inl ⟨?wd1194, ?hy1194⟩) hHeld ?rest1194
      case hi1194 => (simp only [List.getElem?_toArray, List.getElem?_cons_succ, List.getElem?_cons_zero]; rfl)
      case wd1194 => rfl
      case hy1194 => (intro w hSw; (try dsimp only at hSw); go_simp; try with_reducible rfl)
      (try simp only [Act.put, List.setIfInBounds_toArray, List.set_cons_zero, List.set_cons_succ])
      refine wpAnyH_take (i := 27) (oi := ?oi1195) (v := ?v1195) ?hi1195 (by kernel_rfl) (by kernel_rfl) (by kernel_rfl) (fun _ _ _ h => h) (Or.inl ⟨?wd1195, ?hy1195⟩) hHeld ?rest1195
      case hi1195 => (simp only [List.getElem?_toArray, List.getElem?_cons_succ, List.getElem?_cons_zero]; rfl)
      case wd1195 => rfl
      case hy1195 => (intro w hSw; (try dsimp only at hSw); go_simp; try with_reducible rfl)
      (try simp only [Act.put, List.setIfInBounds_toArray, List.set_cons_zero, List.set_cons_succ])
      refine wpAnyH_take (i := 28) (oi := ?oi1196) (v := ?v1196) ?hi1196 (by kernel_rfl) (by kernel_rfl) (by kernel_rfl) (fun _ _ _ h => h) (Or.inl ⟨?wd1196, ?hy1196⟩) hHeld ?rest1196
      case hi1196 => (simp only [List.getElem?_toArray, List.getElem?_cons_succ, List.getElem?_cons_zero]; rfl)
      case wd1196 => rfl
      case hy1196 => (intro w hSw; (try dsimp only at hSw); go_simp; try with_reducible rfl)
      (try simp only [Act.put, List.setIfInBounds_toArray, List.set_cons_zero, List.set_cons_succ])
      refine wpAnyH_take (i := 29) (oi := ?oi1197) (v := ?v1197) ?hi1197 (by kernel_rfl) (by kernel_rfl) (by kernel_rfl) (fun _ _ _ h => h) (Or.inl ⟨?wd1197, ?hy1197⟩) hHeld ?rest1197
      case hi1197 => (simp only [List.getElem?_toArray, List.getElem?_cons_succ, List.getElem?_cons_zero]; rfl)
      case wd1197 => rfl
      case hy1197 => (intro w hSw; (try dsimp only at hSw); go_simp; try with_reducible rfl)
      (try simp only [Act.put, List.setIfInBounds_toArray, List.set_cons_zero, List.set_cons_succ])
      refine wpAnyH_take (i := 30) (oi := ?oi1198) (v := ?v1198) ?hi1198 (by kernel_rfl) (by kernel_rfl) (by kernel_rfl) (fun _ _ _ h => h) (Or.inl ⟨?wd1198, ?hy1198⟩) hHeld ?rest1198
      case hi1198 => (simp only [List.getElem?_toArray, List.getElem?_cons_succ, List.getElem?_cons_zero]; rfl)
      case wd1198 => rfl
      case hy1198 => (intro w hSw; (try dsimp only at hSw); go_simp; try with_reducible rfl)
      (try simp only [Act.put, List.setIfInBounds_toArray, List.set_cons_zero, List.set_cons_succ])
      refine wpAnyH_take (i := 31) (oi := ?oi1199) (v := ?v1199) ?hi1199 (by kernel_rfl) (by kernel_rfl) (by kernel_rfl) (fun _ _ _ h => h) (Or.inl ⟨?wd1199, ?hy1199⟩) hHeld ?rest1199
      case hi1199 => (simp only [List.getElem?_toArray, List.getElem?_cons_succ, List.getElem?_cons_zero]; rfl)
      case wd1199 => rfl
      case hy1199 => (intro w hSw; (try dsimp only at hSw); go_simp; try with_reducible rfl)
      (try simp only [Act.put, List.setIfInBounds_toArray, List.set_cons_zero, List.set_cons_succ])
      refine wpAnyH_take (i := 32) (oi := ?oi1200) (v := ?v1200) ?hi1200 (by kernel_rfl) (by kernel_rfl) (by kernel_rfl) (fun _ _ _ h => h) (Or.inl ⟨?wd1200, ?hy1200⟩) hHeld ?rest1200
      case hi1200 => (simp only [List.getElem?_toArray, List.getElem?_cons_succ, List.getElem?_cons_zero]; rfl)
      case wd1200 => rfl
      case hy1200 => (intro w hSw; (try dsimp only at hSw); go_simp; try with_reducible rfl)
      (try simp only [Act.put, List.setIfInBounds_toArray, List.set_cons_zero, List.set_cons_succ])
      refine wpAnyH_take (i := 33) (oi := ?oi1201) (v := ?v1201) ?hi1201 (by kernel_rfl) (by kernel_rfl) (by kernel_rfl) (fun _ _ _ h => h) (Or.inl ⟨?wd1201, ?hy1201⟩) hHeld ?rest1201
      case hi1201 => (simp only [List.getElem?_toArray, List.getElem?_cons_succ, List.getElem?_cons_zero]; rfl)
      case wd1201 => rfl
      case hy1201 => (intro w hSw; (try dsimp only at hSw); go_simp; try with_reducible rfl)
      (try simp only [Act.put, List.setIfInBounds_toArray, List.set_cons_zero, List.set_cons_succ])
      refine wpAnyH_take (i := 34) (oi := ?oi1202) (v := ?v1202) ?hi1202 (by kernel_rfl) (by kernel_rfl) (by kernel_rfl) (fun _ _ _ h => h) (Or.inl ⟨?wd1202, ?hy1202⟩) hHeld ?rest1202
      case hi1202 => (simp only [List.getElem?_toArray, List.getElem?_cons_succ, List.getElem?_cons_zero]; rfl)
      case wd1202 => rfl
      case hy1202 => (intro w hSw; (try dsimp only at hSw); go_simp; try with_reducible rfl)
      (try simp only [Act.put, List.setIfInBounds_toArray, List.set_cons_zero, List.set_cons_succ])
      refine wpAnyH_done (by kernel_rfl) ?_ _
      refine NoPanic.normal ?_
      obtain ⟨y0, y1, y2, y3, y4, y5, y6, y7⟩ := hHeld
      have hBz : Below w.heap.size w w' := (B3 _ _ _).trans (hb'.mono (by simp; omega))
      have hE := hidSF (hv0.below hBz)
      clear hb' hv0
      go_wp2
      go_quiet (first | (go_at_call 83; refine Calls.quiet_of_same (hF.out _ (hE.out.below ?_)); exact below_drewN' (Below.refl _ _)) | (go_at_call 101; refine Calls.quiet_of_same (hDp.out _ (hE.out.below ?_)); exact below_drewN' (Below.refl _ _)))
      go_wp2
      go_ret
      exact ⟨ret_bool (by simp; omega), below_drewN' hBz⟩
  case step1129 =>
    go_simp
    (go_at_call 100; refine (l2Ariths_any _).mono ?_; rintro e' w' ⟨rfl, rfl⟩)
    (try go_wp2_with fail)
    refine hK.out _ _ ?hS1203 (fun hHeld' => ?rest1203)
    case hS1203 => ((try dsimp only); (go_split_ands; refine ⟨?_, ?_, ?_, ?_, ?_, ?_, ?_, ?_⟩ <;> first | (simp [go_sem]; done) | exact cell_below hb' (by assumption)))
    clear hK K
    (try simp only [Act.put, List.setIfInBounds_toArray, List.set_cons_zero, List.set_cons_succ])
    clear hHeld
    have hHeld := hHeld'
    clear hHeld'
    refine wpAnyH_ready (rs := [2]) (by kernel_rfl) (by simp) ?_
    refine AllReadyH.cons (o := ?o1204) ?ho1204 (fun K hK => ?step1204) AllReadyH.nil
    case ho1204 => (simp only [List.getElem?_toArray, List.getElem?_cons_succ, List.getElem?_cons_zero]; rfl)
    go_simp
    refine hK.out _ _ ?hS1205 (fun hHeld' => ?rest1205)
    case hS1205 => ((try dsimp only); (go_split_ands; refine ⟨?_, ?_, ?_, ?_, ?_, ?_, ?_, ?_⟩ <;> first | (simp [go_sem]; done) | exact cell_below hb' (by assumption)))
    clear hK K
    (try simp only [Act.put, List.setIfInBounds_toArray, List.set_cons_zero, List.set_cons_succ])
    clear hHeld
    have hHeld := hHeld'
    clear hHeld'
    refine wpAnyH_ready (rs := [3]) (by kernel_rfl) (by simp) ?_
    refine AllReadyH.cons (o := ?o1206) ?ho1206 (fun K hK => ?step1206) AllReadyH.nil
    case ho1206 => (simp only [List.getElem?_toArray, List.getElem?_cons_succ, List.getElem?_cons_zero]; rfl)
    go_simp
    refine hK.out _ _ ?hS1207 (fun hHeld' => ?rest1207)
    case hS1207 => ((try dsimp only); (go_split_ands; refine ⟨?_, ?_, ?_, ?_, ?_, ?_, ?_, ?_⟩ <;> first | (simp [go_sem]; done) | exact cell_below hb' (by assumption)))
    clear hK K
    (try simp only [Act.put, List.setIfInBounds_toArray, List.set_cons_zero, List.set_cons_succ])
    clear hHeld
    have hHeld := hHeld'
    clear hHeld'
    refine wpAnyH_ready (rs := [5]) (by kernel_rfl) (by simp) ?_
    refine AllReadyH.cons (o := ?o1208) ?ho1208 (fun K hK => ?step1208) AllReadyH.nil
    case ho1208 => (simp only [List.getElem?_toArray, List.getElem?_cons_succ, List.getElem?_cons_zero]; rfl)
    go_simp
    (go_at_call 82; refine (hIs.out _ _ ?_).mono ?_; (first | exact ar_new _ _ _ (by simp) | exact ar_old _ _ _ _ (by simp)); rintro e' w' ⟨rfl, rfl⟩)
    (try go_wp2_with fail)
    refine hK.out _ _ ?hS1209 (fun hHeld' => ?rest1209)
    case hS1209 => ((try dsimp only); (go_split_ands; refine ⟨?_, ?_, ?_, ?_, ?_, ?_, ?_, ?_⟩ <;> first | (simp [go_sem]; done) | exact cell_below hb' (by assumption)))
    clear hK K
    (try simp only [Act.put, List.setIfInBounds_toArray, List.set_cons_zero, List.set_cons_succ])
    clear hHeld
    have hHeld := hHeld'
    clear hHeld'
    refine wpAnyH_take (i := 6) (oi := ?oi1210) (v := ?v1210) ?hi1210 (by kernel_rfl) (by kernel_rfl) (by kernel_rfl) (fun _ _ _ h => h) (Or.inl ⟨?wd1210, ?hy1210⟩) hHeld ?rest1210
    case hi1210 => (simp only [List.getElem?_toArray, List.getElem?_cons_succ, List.getElem?_cons_zero]; rfl)
    case wd1210 => rfl
    case hy1210 => (intro w hSw; (try dsimp only at hSw); go_simp; try with_reducible rfl)
    (try simp only [Act.put, List.setIfInBounds_toArray, List.set_cons_zero, List.set_cons_succ])
    refine wpAnyH_take (i := 7) (oi := ?oi1211) (v := ?v1211) ?hi1211 (by kernel_rfl) (by kernel_rfl) (by kernel_rfl) (fun _ _ _ h => h) (Or.inl ⟨?wd1211, ?hy1211⟩) hHeld ?rest1211
    case hi1211 => (simp only [List.getElem?_toArray, List.getElem?_cons_succ, List.getElem?_cons_zero]; rfl)
    case wd1211 => rfl
    case hy1211 => (intro w hSw; (try dsimp only at hSw); go_simp; try with_reducible rfl)
    (try simp only [Act.put, List.setIfInBounds_toArray, List.set_cons_zero, List.set_cons_succ])
    refine wpAnyH_take (i := 8) (oi := ?oi1212) (v := ?v1212) ?hi1212 (by kernel_rfl) (by kernel_rfl) (by kernel_rfl) (fun _ _ _ h => h) (Or.inl ⟨?wd1212, ?hy1212⟩) hHeld ?rest1212
    case hi1212 => (simp only [List.getElem?_toArray, List.getElem?_cons_succ, List.getElem?_cons_zero]; rfl)
    case wd1212 => rfl
    case hy1212 => (intro w hSw; (try dsimp only at hSw); go_simp; try with_reducible rfl)
    (try simp only [Act.put, List.setIfInBounds_toArray, List.set_cons_zero, List.set_cons_succ])
    refine wpAnyH_take (i := 9) (oi := ?oi1213) (v := ?v1213) ?hi1213 (by kernel_rfl) (by kernel_rfl) (by kernel_rfl) (fun _ _ _ h => h) (Or.inl ⟨?wd1213, ?hy1213⟩) hHeld ?rest1213
    case hi1213 => (simp only [List.getElem?_toArray, List.getElem?_cons_succ, List.getElem?_cons_zero]; rfl)
    case wd1213 => rfl
    case hy1213 => (intro w hSw; (try dsimp only at hSw); go_simp; try with_reducible rfl)
    (try simp only [Act.put, List.setIfInBounds_toArray, List.set_cons_zero, List.set_cons_succ])
    refine wpAnyH_take (i := 10) (oi := ?oi1214) (v := ?v1214) ?hi1214 (by kernel_rfl) (by kernel_rfl) (by kernel_rfl) (fun _ _ _ h => h) (Or.inl ⟨?wd1214, ?hy1214⟩) hHeld ?rest1214
    case hi1214 => (simp only [List.getElem?_toArray, List.getElem?_cons_succ, List.getElem?_cons_zero]; rfl)
    case wd1214 => rfl
    case hy1214 => (intro w hSw; (try dsimp only at hSw); go_simp; try with_reducible rfl)
    (try simp only [Act.put, List.setIfInBounds_toArray, List.set_cons_zero, List.set_cons_succ])
    refine wpAnyH_take (i := 11) (oi := ?oi1215) (v := ?v1215) ?hi1215 (by kernel_rfl) (by kernel_rfl) (by kernel_rfl) (fun _ _ _ h => h) (Or.inl ⟨?wd1215, ?hy1215⟩) hHeld ?rest1215
    case hi1215 => (simp only [List.getElem?_toArray, List.getElem?_cons_succ, List.getElem?_cons_zero]; rfl)
    case wd1215 => rfl
    case hy1215 => (intro w hSw; (try dsimp only at hSw); go_simp; try with_reducible rfl)
    (try simp only [Act.put, List.setIfInBounds_toArray, List.set_cons_zero, List.set_cons_succ])
    refine wpAnyH_take (i := 12) (oi := ?oi1216) (v := ?v1216) ?hi1216 (by kernel_rfl) (by kernel_rfl) (by kernel_rfl) (fun _ _ _ h => h) (Or.inl ⟨?wd1216, ?hy1216⟩) hHeld ?rest1216
    case hi1216 => (simp only [List.getElem?_toArray, List.getElem?_cons_succ, List.getElem?_cons_zero]; rfl)
    case wd1216 => rfl
    case hy1216 => (intro w hSw; (try dsimp only at hSw); go_simp; try with_reducible rfl)
    (try simp only [Act.put, List.setIfInBounds_toArray, List.set_cons_zero, List.set_cons_succ])
    refine wpAnyH_take (i := 13) (oi := ?oi1217) (v := ?v1217) ?hi1217 (by kernel_rfl) (by kernel_rfl) (by kernel_rfl) (fun _ _ _ h => h) (Or.inl ⟨?wd1217, ?hy1217⟩) hHeld ?rest1217
    case hi1217 => (simp only [List.getElem?_toArray, List.getElem?_cons_succ, List.getElem?_cons_zero]; rfl)
    case wd1217 => rfl
    case hy1217 => (intro w hSw; (try dsimp only at hSw); go_simp; try with_reducible rfl)
    (try simp only [Act.put, List.setIfInBounds_toArray, List.set_cons_zero, List.set_cons_succ])
    refine wpAnyH_take (i := 14) (oi := ?oi1218) (v := ?v1218) ?hi1218 (by kernel_rfl) (by kernel_rfl) (by kernel_rfl) (fun _ _ _ h => h) (Or.inl ⟨?wd1218, ?hy1218⟩) hHeld ?rest1218
    case hi1218 => (simp only [List.getElem?_toArray, List.getElem?_cons_succ, List.getElem?_cons_zero]; rfl)
    case wd1218 => rfl
    case hy1218 => (intro w hSw; (try dsimp only at hSw); go_simp; try with_reducible rfl)
    (try simp only [Act.put, List.setIfInBounds_toArray, List.set_cons_zero, List.set_cons_succ])
    refine wpAnyH_ready (rs := [15]) (by kernel_rfl) (by simp) ?_
    refine AllReadyH.cons (o := ?o1219) ?ho1219 (fun K hK => ?step1219) AllReadyH.nil
    case ho1219 => (simp only [List.getElem?_toArray, List.getElem?_cons_succ, List.getElem?_cons_zero]; rfl)
    go_simp
    (go_at_call 84; refine (hZ.out _).mono ?_; rintro e' w' ⟨rfl, hb'⟩)
    (try go_wp2_with fail)
    refine hK.out _ _ ?hS1220 (fun hHeld' => ?rest1220)
    case hS1220 => ((try dsimp only); (go_split_ands; refine ⟨?_, ?_, ?_, ?_, ?_, ?_, ?_, ?_⟩ <;> first | (simp [go_sem]; done) | exact cell_below hb' (by assumption)))
    clear hK K
    (try simp only [Act.put, List.setIfInBounds_toArray, List.set_cons_zero, List.set_cons_succ])
    clear hHeld
    have hHeld := hHeld'
    clear hHeld'
    refine wpAnyH_take (i := 16) (oi := ?oi1221) (v := ?v1221) ?hi1221 (by kernel_rfl) (by kernel_rfl) (by kernel_rfl) (fun _ _ _ h => h) (Or.inl ⟨?wd1221, ?hy1221⟩) hHeld ?rest1221
    case hi1221 => (simp only [List.getElem?_toArray, List.getElem?_cons_succ, List.getElem?_cons_zero]; rfl)
    case wd1221 => rfl
    case hy1221 => (intro w hSw; (try dsimp only at hSw); go_simp; try with_reducible rfl)
    (try simp only [Act.put, List.setIfInBounds_toArray, List.set_cons_zero, List.set_cons_succ])
    refine wpAnyH_take (i := 17) (oi := ?oi1222) (v := ?v1222) ?hi1222 (by kernel_rfl) (by kernel_rfl) (by kernel_rfl) (fun _ _ _ h => h) (Or.inl ⟨?wd1222, ?hy1222⟩) hHeld ?rest1222
    case hi1222 => (simp only [List.getElem?_toArray, List.getElem?_cons_succ, List.getElem?_cons_zero]; rfl)
    case wd1222 => rfl
    case hy1222 => (intro w hSw; (try dsimp only at hSw); go_simp; try with_reducible rfl)
    (try simp only [Act.put, List.setIfInBounds_toArray, List.set_cons_zero, List.set_cons_succ])
    refine wpAnyH_take (i := 18) (oi := ?oi1223) (v := ?v1223) ?hi1223 (by kernel_rfl) (by kernel_rfl) (by kernel_rfl) (fun _ _ _ h => h) (Or.inl ⟨?wd1223, ?hy1223⟩) hHeld ?rest1223
    case hi1223 => (simp only [List.getElem?_toArray, List.getElem?_cons_succ, List.getElem?_cons_zero]; rfl)
    case wd1223 => rfl
    case hy1223 => (intro w hSw; (try dsimp only at hSw); go_simp; try with_reducible rfl)
    (try simp only [Act.put, List.setIfInBounds_toArray, List.set_cons_zero, List.set_cons_succ])
    refine wpAnyH_take (i := 19) (oi := ?oi1224) (v := ?v1224) ?hi1224 (by kernel_rfl) (by kernel_rfl) (by kernel_rfl) (fun _ _ _ h => h) (Or.inl ⟨?wd1224, ?hy1224⟩) hHeld ?rest1224
    case hi1224 => (simp only [List.getElem?_toArray, List.getElem?_cons_succ, List.getElem?_cons_zero]; rfl)
    case wd1224 => rfl
    case hy1224 => (intro w hSw; (try dsimp only at hSw); go_simp; try with_reducible rfl)
    (try simp only [Act.put, List.setIfInBounds_toArray, List.set_cons_zero, List.set_cons_succ])
    refine wpAnyH_take (i := 20) (oi := ?oi1225) (v := ?v1225) ?hi1225 (by kernel_rfl) (by kernel_rfl) (by kernel_rfl) (fun _ _ _ h => h) (Or.inl ⟨?wd1225, ?hy1225⟩) hHeld ?rest1225
    case hi1225 => (simp only [List.getElem?_toArray, List.getElem?_cons_succ, List.getElem?_cons_zero]; rfl)
    case wd1225 => rfl
    case hy1225 => (intro w hSw; (try dsimp only at hSw); go_simp; try with_reducible rfl)
    (try simp only [Act.put, List.setIfInBounds_toArray, List.set_cons_zero, List.set_cons_succ])
    refine wpAnyH_take (i := 21) (oi := ?oi1226) (v := ?v1226) ?hi1226 (by kernel_rfl) (by kernel_rfl) (by kernel_rfl) (fun _ _ _ h => h) (Or.inl ⟨?wd1226, ?hy1226⟩) hHeld ?rest1226
    case hi1226 => (simp only [List.getElem?_toArray, List.getElem?_cons_succ, List.getElem?_cons_zero]; rfl)
    case wd1226 => rfl
    case hy1226 => (intro w hSw; (try dsimp only at hSw); go_simp; try with_reducible rfl)
    (try simp only [Act.put, List.setIfInBounds_toArray, List.set_cons_zero, List.set_cons_succ])
    refine wpAnyH_take (i := 22) (oi := ?oi1227) (v := ?v1227) ?hi1227 (by kernel_rfl) (by kernel_rfl) (by kernel_rfl) (fun _ _ _ h => h) (Or.inl ⟨?wd1227, ?hy1227⟩) hHeld ?rest1227
    case hi1227 => (simp only [List.getElem?_toArray, List.getElem?_cons_succ, List.getElem?_cons_zero]; rfl)
    case wd1227 => rfl
    case hy1227 => (intro w hSw; (try dsimp only at hSw); go_simp; try with_reducible rfl)
    (try simp only [Act.put, List.setIfInBounds_toArray, List.set_cons_zero, List.set_cons_succ])
    refine wpAnyH_take (i := 23) (oi := ?oi1228) (v := ?v1228) ?hi1228 (by kernel_rfl) (by kernel_rfl) (by kernel_rfl) (fun _ _ _ h => h) (Or.inl ⟨?wd1228, ?hy1228⟩) hHeld ?rest1228
    case hi1228 => (simp only [List.getElem?_toArray, List.getElem?_cons_succ, List.getElem?_cons_zero]; rfl)
    case wd1228 => rfl
    case hy1228 => (intro w hSw; (try dsimp only at hSw); go_simp; try with_reducible rfl)
    (try simp only [Act.put, List.setIfInBounds_toArray, List.set_cons_zero, List.set_cons_succ])
    refine wpAnyH_take (i := 24) (oi := ?oi1229) (v := ?v1229) ?hi1229 (by kernel_rfl) (by kernel_rfl) (by kernel_rfl) (fun _ _ _ h => h) (Or.inl ⟨?wd1229, ?hy1229⟩) hHeld ?rest1229
    case hi1229 => (simp only [List.getElem?_toArray, List.getElem?_cons_succ, List.getElem?_cons_zero]; rfl)
    case wd1229 => rfl
    case hy1229 => (intro w hSw; (try dsimp only at hSw); go_simp; try with_reducible rfl)
    (try simp only [Act.put, List.setIfInBounds_toArray, List.set_cons_zero, List.set_cons_succ])
    refine wpAnyH_take (i := 25) (oi := ?oi1230) (v := ?v1230) ?hi1230 (by kernel_rfl) (by kernel_rfl) (by kernel_rfl) (fun _ _ _ h => h) (Or.inl ⟨?wd1230, ?hy1230⟩) hHeld ?rest1230
    case hi1230 => (simp only [List.getElem?_toArray, List.getElem?_cons_succ, List.getElem?_cons_zero]; rfl)
    case wd1230 => rfl
    case hy1230 => (intro w hSw; (try dsimp only at hSw); go_simp; try with_reducible rfl)
    (try simp only [Act.put, List.setIfInBounds_toArray, List.set_cons_zero, List.set_cons_succ])
    refine wpAnyH_take (i := 26) (oi := ?oi1231) (v := ?v1231) ?hi1231 (by kernel_rfl) (by kernel_rfl) (by kernel_rfl) (fun _ _ _ h => h) (Or.inl ⟨?wd1231, ?hy1231⟩) hHeld ?rest1231
    case hi1231 => (simp only [List.getElem?_toArray, List.getElem?_cons_succ, List.getElem?_cons_zero]; rfl)
    case wd1231 => rfl
    case hy1231 => (intro w hSw; (try dsimp only at hSw); go_simp; try with_reducible rfl)
    (try simp only [Act.put, List.setIfInBounds_toArray, List.set_cons_zero, List.set_cons_succ])
    refine wpAnyH_take (i := 27) (oi := ?oi1232) (v := ?v1232) ?hi1232 (by kernel_rfl) (by kernel_rfl) (by kernel_rfl) (fun _ _ _ h => h) (Or.inl ⟨?wd1232, ?hy1232⟩) hHeld ?rest1232
    case hi1232 => (simp only [List.getElem?_toArray, List.getElem?_cons_succ, List.getElem?_cons_zero]; rfl)
    case wd1232 => rfl
    case hy1232 => (intro w hSw; (try dsimp only at hSw); go_simp; try with_reducible rfl)
    (try simp only [Act.put, List.setIfInBounds_toArray, List.set_cons_zero, List.set_cons_succ])
    refine wpAnyH_take (i := 28) (oi := ?oi1233) (v := ?v1233) ?hi1233 (by kernel_rfl) (by kernel_rfl) (by kernel_rfl) (fun _ _ _ h => h) (Or.inl ⟨?wd1233, ?hy1233⟩) hHeld ?rest1233
    case hi1233 => (simp only [List.getElem?_toArray, List.getElem?_cons_succ, List.getElem?_cons_zero]; rfl)
    case wd1233 => rfl
    case hy1233 => (intro w hSw; (try dsimp only at hSw); go_simp; try with_reducible rfl)
    (try simp only [Act.put, List.setIfInBounds_toArray, List.set_cons_zero, List.set_cons_succ])
    refine wpAnyH_take (i := 29) (oi := ?oi1234) (v := ?v1234) ?hi1234 (by kernel_rfl) (by kernel_rfl) (by kernel_rfl) (fun _ _ _ h => h) (Or.inl ⟨?wd1234, ?hy1234⟩) hHeld ?rest1234
    case hi1234 => (simp only [List.getElem?_toArray, List.getElem?_cons_succ, List.getElem?_cons_zero]; rfl)
    case wd1234 => rfl
    case hy1234 => (intro w hSw; (try dsimp only at hSw); go_simp; try with_reducible rfl)
    (try simp only [Act.put, List.setIfInBounds_toArray, List.set_cons_zero, List.set_cons_succ])
    refine wpAnyH_take (i := 30) (oi := ?oi1235) (v := ?v1235) ?hi1235 (by kernel_rfl) (by kernel_rfl) (by kernel_rfl) (fun _ _ _ h => h) (Or.inl ⟨?wd1235, ?hy1235⟩) hHeld ?rest1235
    case hi1235 => (simp only [List.getElem?_toArray, List.getElem?_cons_succ, List.getElem?_cons_zero]; rfl)
    case wd1235 => rfl
    case hy1235 => (intro w hSw; (try dsimp only at hSw); go_simp; try with_reducible rfl)
    (try simp only [Act.put, List.setIfInBounds_toArray, List.set_cons_zero, List.set_cons_succ])
    refine wpAnyH_take (i := 31) (oi := ?oi1236) (v := ?v1236) ?hi1236 (by kernel_rfl) (by kernel_rfl) (by kernel_rfl) (fun _ _ _ h => h) (Or.inl ⟨?wd1236, ?hy1236⟩) hHeld ?rest1236
    case hi1236 => (simp only [List.getElem?_toArray, List.getElem?_cons_succ, List.getElem?_cons_zero]; rfl)
    case wd1236 => rfl
    case hy1236 => (intro w hSw; (try dsimp only at hSw); go_simp; try with_reducible rfl)
    (try simp only [Act.put, List.setIfInBounds_toArray, List.set_cons_zero, List.set_cons_succ])
    refine wpAnyH_take (i := 32) (oi := ?oi1237) (v := ?v1237) ?hi1237 (by kernel_rfl) (by kernel_rfl) (by kernel_rfl) (fun _ _ _ h => h) (Or.inl ⟨?wd1237, ?hy1237⟩) hHeld ?rest1237
    case hi1237 => (simp only [List.getElem?_toArray, List.getElem?_cons_succ, List.getElem?_cons_zero]; rfl)
    case wd1237 => rfl
    case hy1237 => (intro w hSw; (try dsimp only at hSw); go_simp; try with_reducible rfl)
    (try simp only [Act.put, List.setIfInBounds_toArray, List.set_cons_zero, List.set_cons_succ])
    refine wpAnyH_take (i := 33) (oi := ?oi1238) (v := ?v1238) ?hi1238 (by kernel_rfl) (by kernel_rfl) (by kernel_rfl) (fun _ _ _ h => h) (Or.inl ⟨?wd1238, ?hy1238⟩) hHeld ?rest1238
    case hi1238 => (simp only [List.getElem?_toArray, List.getElem?_cons_succ, List.getElem?_cons_zero]; rfl)
    case wd1238 => rfl
    case hy1238 => (intro w hSw; (try dsimp only at hSw); go_simp; try with_reducible rfl)
    (try simp only [Act.put, List.setIfInBounds_toArray, List.set_cons_zero, List.set_cons_succ])
    refine wpAnyH_take (i := 34) (oi := ?oi1239) (v := ?v1239) ?hi1239 (by kernel_rfl) (by kernel_rfl) (by kernel_rfl) (fun _ _ _ h => h) (Or.inl ⟨?wd1239, ?hy1239⟩) hHeld ?rest1239
    case hi1239 => (simp only [List.getElem?_toArray, List.getElem?_cons_succ, List.getElem?_cons_zero]; rfl)
    case wd1239 => rfl
    case hy1239 => (intro w hSw; (try dsimp only at hSw); go_simp; try with_reducible rfl)
    (try simp only [Act.put, List.setIfInBounds_toArray, List.set_cons_zero, List.set_cons_succ])
    refine wpAnyH_done (by kernel_rfl) ?_ _
    refine NoPanic.normal ?_
    obtain ⟨y0, y1, y2, y3, y4, y5, y6, y7⟩ := hHeld
    have hBz : Below w.heap.size w w' := (B3 _ _ _).trans (hb'.mono (by simp; omega))
    have hE := hidSF (hv0.below hBz)
    clear hb' hv0
    go_wp2
    go_quiet (first | (go_at_call 83; refine Calls.quiet_of_same (hF.out _ (hE.out.below ?_)); exact below_drewN' (Below.refl _ _)) | (go_at_call 101; refine Calls.quiet_of_same (hDp.out _ (hE.out.below ?_)); exact below_drewN' (Below.refl _ _)))
    go_wp2
    go_ret
    exact ⟨ret_bool (by simp; omega), below_drewN' hBz⟩
end Go.Proofs.YtgamdkokmkagaaaGreat

namespace Go.Proofs.YtgamdkokmkagaaaGreat
open Go.RowKit
attribute [local go_sem ↓] Go.wp_at_zero Go.wp_at_succ

set_option maxHeartbeats 1600000 in
theorem l2GoodExpr_any (a : Option Addr) (c : Nat) (es : List Ex) (S : List Sp) (e : Ex) (w : World) {q : Option Nat} (hv : ExsAt q w a es) (hl : es.length ≤ 60) (hS : Spans es S) (he : es[S.length]? = some e) (hs : e.le maxLen) (ho0 : 0 ≤ e.op) (ho1 : e.op < 256) :
    Calls Tryz.prog 80 #[.slice a es.length c, .int .i64 (S.length : Int)] w fun e' w' => e' = .returned (.bool (spanOf S e).isSome) ∧ Below w.heap.size w w' := by
  obtain ⟨hs1, hs2⟩ := hs
  have hkl : S.length < es.length := (List.getElem?_eq_some_iff.1 he).1
  have B1 : ∀ o, Below w.heap.size w (w.alloc o) := fun o => (Below.refl _ _).alloc (Nat.le_refl _) _
  have hv0 := hv
  obtain ⟨b, o, rfl, hq, c0, c1, c2, c3, c4, c5, c6, c7⟩ := hv.get he
  clear hq hv
  by_cases k0 : e.kind = 0
  · have e0 : (e.kind == 0) = true := by simp [k0]
    cases h1 : (e.op == 0) <;> cases h2 : (e.a == 0) <;> cases h3 : (e.b == 0) <;> cases h4 : e.var.toList.isEmpty
    all_goals
      go_enter Tryz.func80, Tryz.ntmps80
      go_wp2_with (go_at_call 85; refine (l1GoodVal_any e.val _ hs2).mono ?_; rintro e' w' ⟨rfl, hb'⟩)
      go_ret
    all_goals first
      | exact ⟨ret_bool (by simp [spanOf, leafOk, isE, e0, h1, h2, h3, h4]), B1 _⟩
      | exact ⟨ret_bool (by simp [spanOf, leafOk, isE, e0, h1, h2, h3, h4]; cases gVal e.val <;> rfl), (B1 _).trans (hb'.mono (by simp))⟩
  by_cases k1 : e.kind = 1
  · have e0 : (e.kind == 0) = false := by simp [k1]
    have e1 : (e.kind == 1) = true := by simp [k1]
    cases h1 : (e.op == 0) <;> cases h2 : (e.a == 0) <;> cases h3 : (e.b == 0) <;> cases h4 : gSym e.var.data.toList
    all_goals
      go_enter Tryz.func80, Tryz.ntmps80
      go_wp2_with (first | (go_at_call 79; refine (l1GoodSym_any e.var _ hs1).mono ?_; rintro e' w' ⟨rfl, rfl⟩) | (go_at_call 84; refine (l2Zero_any e.val _).mono ?_; rintro e' w' ⟨rfl, hb'⟩))
      go_ret
    all_goals first
      | exact ⟨ret_bool (by simp [spanOf, leafOk, e0, e1, h1, h2, h3, h4]), B1 _⟩
      | exact ⟨ret_bool (by simp [spanOf, leafOk, e0, e1, h1, h2, h3, h4]; cases zeroV e.val <;> rfl), (B1 _).trans (hb'.mono (by simp))⟩
  have e0 : (e.kind == 0) = false := by simpa using k0
  have e1 : (e.kind == 1) = false := by simpa using k1
  by_cases k2 : e.kind = 2
  · have hz : e.val.sym.size ≤ maxLen := hs2
    have e2 : (e.kind == 2) = true := by simp [k2]
    have hSp : (spanOf S e).isSome = (if opOk S e then spanAB S e.a e.b else none).isSome := by simp [spanOf, k2]
    clear c0 c1 c2 c3 c4 c5 c6 c7 hz
    cases har : isAr e.op
    · rw [show (spanOf S e).isSome = false by rw [hSp]; simp [opOk, har]]
      exact goodExpr_o1 _ c es S e w hv0 he ho0 ho1 k2 har
    cases hva : e.var.toList.isEmpty
    · rw [show (spanOf S e).isSome = false by rw [hSp]; simp [opOk, isE, hva]]
      exact goodExpr_o2 _ c es S e w hv0 he ho0 ho1 k2 har hva
    cases hzv : zeroV e.val
    · rw [show (spanOf S e).isSome = false by rw [hSp]; simp [opOk, hzv]]
      exact goodExpr_o3 _ c es S e w hv0 he ho0 ho1 k2 har hva hzv
    by_cases hbi : e.b = (S.length : Int) - 1
    · by_cases hb0 : e.b < 0
      · rw [show (spanOf S e).isSome = false by rw [hSp]; simp [opOk, show ¬ 0 ≤ e.b by omega]]
        exact goodExpr_o5 _ c es S e w hv0 he ho0 ho1 k2 har hva hzv hbi hb0
      by_cases ha0 : e.a < 0
      · rw [show (spanOf S e).isSome = false by rw [hSp]; simp [opOk, show ¬ 0 ≤ e.a by omega]]
        exact goodExpr_o6 _ c es S e w hv0 hl he ho0 ho1 k2 har hva hzv hbi hb0 ha0
      obtain ⟨bn, heb⟩ := Int.eq_ofNat_of_zero_le (show 0 ≤ e.b by omega)
      have hbn : bn + 1 = S.length := by omega
      obtain ⟨sb, hsb⟩ : ∃ s, S[bn]? = some s := ⟨S[bn]'(by omega), by simp⟩
      obtain ⟨ea, hea⟩ := Int.eq_ofNat_of_zero_le (show 0 ≤ e.a by omega)
      have hok : opOk S e = true := by
        simp only [opOk, har, isE, hva, hzv, Bool.true_and, Bool.and_eq_true, decide_eq_true_eq]
        exact ⟨hbi, by omega, by omega⟩
      have hab : (spanOf S e).isSome = (spanAB S e.a e.b).isSome := by rw [hSp, hok]; rfl
      have hfl := hS.first_le bn sb hsb
      cases hd : (e.a == (sb.1 : Int) - 1)
      · have hne : ¬ e.a = (sb.1 : Int) - 1 := by simpa using hd
        rw [show (spanOf S e).isSome = false by
          rw [hab]
          unfold spanAB
          rw [heb, Int.toNat_natCast, hsb]
          cases S[e.a.toNat]? <;> simp [hne]]
        exact goodExpr_o7a _ c es S e w hv0 hl he ho0 ho1 k2 har hva hzv hS bn hbn heb sb hsb ha0 hd
      · have heq : e.a = (sb.1 : Int) - 1 := by simpa using hd
        obtain ⟨sa, hsa⟩ : ∃ s, S[ea]? = some s := ⟨S[ea]'(by omega), by simp⟩
        rw [show (spanOf S e).isSome = decide (1 + max sa.2 sb.2 ≤ 20) by
          rw [hab]
          unfold spanAB
          have hde : decide ((ea : Int) = (sb.1 : Int) - 1) = true := decide_eq_true (by omega)
          rw [heb, hea, Int.toNat_natCast, Int.toNat_natCast, hsb, hsa]
          simp only [hde, Bool.true_and]
          by_cases hm : 1 + max sa.2 sb.2 ≤ 20
          · rw [decide_eq_true hm]; rfl
          · rw [decide_eq_false hm]; rfl]
        exact goodExpr_o7b _ c es S e w hv0 hl he ho0 ho1 k2 har hva hzv hS bn hbn heb sb hsb ha0 hd ea sa hea hsa
    · rw [show (spanOf S e).isSome = false by rw [hSp]; simp [opOk, hbi]]
      exact goodExpr_o4 _ c es S e w hv0 hl he ho0 ho1 k2 har hva hzv hbi
  · have e2 : (e.kind == 2) = false := by simpa using k2
    cases h1 : (e.op == 0) <;> cases h2 : (e.a == 0) <;> cases h3 : (e.b == 0)
    all_goals
      go_enter Tryz.func80, Tryz.ntmps80
      go_wp2
      go_ret
      exact ⟨ret_bool (by simp [spanOf, e0, e1, e2]), B1 _⟩
end Go.Proofs.YtgamdkokmkagaaaGreat
