/-
  OUR OWN TEXT. Recency: the model's side: one number after the other is put at its place.
-/
import Derived.Test.YtajgedhmliekoaaGreatJg
import Derived.Deep.RegionHeld3
import Derived.Deep.DrawnRows
namespace Go.Proofs.YtajgedhmliekoaaGreat
open Go.RowKit
attribute [local go_sem ↓] Go.wp_at_zero Go.wp_at_succ

theorem hidQ {p : Prop} (h : p) : Hid p := h
theorem infoIntR : (Tryz.prog.info? 3).map (fun i => (i.zero, i.size, i.bytes)) = some (some (.int .i64 0), 1, 8) := by kernel_rfl
theorem icells_len (xs : List Int) : (icells xs).length = xs.length := by simp [icells]
theorem icells_append (xs ys : List Int) : icells (xs ++ ys) = icells xs ++ icells ys := by simp [icells]
theorem icells_one (xs : List Int) : ∀ u ∈ icells xs, u.oneCell' = true := by
  intro u hu
  obtain ⟨x, _, rfl⟩ := List.mem_map.1 hu
  rfl
theorem icells_at {xs : List Int} {j : Nat} {u : Value} (h : (icells xs)[j]? = some u) : ∃ x, xs[j]? = some x ∧ u = .int .i64 x := by
  unfold icells at h
  rw [List.getElem?_map] at h
  cases hx : xs[j]? with
  | none => rw [hx] at h; cases h
  | some x => rw [hx] at h; exact ⟨x, rfl, by simpa using h.symm⟩
/-- What append reads of a row that is owned, from place k on. -/
theorem own_news {w : World} {base n : Nat} {a : Option Addr} {c : Nat} {ys : List Int} (h : w.ownsRow base 3 1 (.slice a n c) n (icells ys)) {g k : Nat} (hg : a = some ⟨g, 0, none⟩) {zs : List Int} (hz : ∀ (j : Nat) (x : Int), zs[j]? = some x → ys[k + j]? = some x) :
    ∀ ad, some (⟨g, k, none⟩ : Addr) = some ad → ∀ (j : Nat) u, (icells zs)[j]? = some u → w.cell? (ad.add j) = some u := by
  intro ad e j u hu
  injection e with e
  subst e
  obtain ⟨x, hx, rfl⟩ := icells_at hu
  have hy := hz j x hx
  have hy' : (icells ys)[k + j]? = some (.int .i64 x) := by unfold icells; rw [List.getElem?_map, hy]; rfl
  obtain ⟨g', he, _, hc, _⟩ := owns_cell h hy'
  rw [hg] at he
  injection he with he
  injection he with he
  subst he
  rw [Addr.add_lit]
  exact hc
theorem take_at {ys : List Int} {k j : Nat} {x : Int} (h : (ys.take k)[j]? = some x) : ys[0 + j]? = some x := by
  rw [List.getElem?_take] at h
  rw [Nat.zero_add]
  split at h
  · exact h
  · cases h
theorem drop_at {ys : List Int} {k j : Nat} {x : Int} (h : (ys.drop k)[j]? = some x) : ys[k + j]? = some x := by
  rwa [List.getElem?_drop] at h
theorem one_news (w : World) (t : Int) (ty : TypeId) (g : Nat) (hg : g = w.heap.size) : ∀ ad, some (⟨g, 0, none⟩ : Addr) = some ad → ∀ (j : Nat) u, (icells [t])[j]? = some u → (w.alloc (.cells #[.int .i64 t] ty)).cell? (ad.add j) = some u := by
  intro ad e j u hu
  injection e with e
  subst e hg
  obtain ⟨x, hx, rfl⟩ := icells_at hu
  cases j with
  | zero => simp at hx; subst hx; simp [Addr.add_lit]
  | succ j => simp at hx

/-- Two appends to a new row leave an older one alone. -/
theorem keep2 {wr w1 w2 : World} {base n n1 n2 c c1 : Nat} {ty : TypeId} {a a1 : Option Addr} {o : Obj} {xs : List Value} (h : wr.ownsRow base ty 1 (.slice a n c) n xs) (hg1 : wr.grownBy w1 (Value.slice none 0 0).ownBlock)
    (hl1 : (Value.slice a1 n1 c1).ownBlock = (Value.slice none 0 0).ownBlock ∨ (Value.slice a1 n1 c1).ownBlock = some wr.heap.size) (hg2 : (w1.alloc o).grownBy w2 (Value.slice a1 n2 c1).ownBlock) : w2.ownsRow base ty 1 (.slice a n c) n xs := by
  refine owns_of_block h fun g hg => ?_
  have hlt := (h.lt g hg).2
  have h1 : w1.heap[g]? = wr.heap[g]? := hg1.block g hlt (by simp [Value.ownBlock])
  have hs1 := hg1.size
  have h2 : (w1.alloc o).heap[g]? = w1.heap[g]? := Below.heap_alloc w1 o g (by omega)
  refine (hg2.block g (by simp; omega) ?_).trans (h2.trans h1)
  have hn : (Value.slice a1 n2 c1).ownBlock = (Value.slice a1 n1 c1).ownBlock := by cases a1 <;> rfl
  rcases hl1 with e | e <;> rw [hn, e]
  · simp [Value.ownBlock]
  · intro e'
    injection e' with e'
    omega

set_option maxHeartbeats 3200000 in
theorem sRec_any (a : Option Addr) (c : Nat) (xs : List Int) {q : Option Nat} (w : World) (hv : IntsAt q w a xs) (hl : xs.length ≤ 1048576) :
    Calls Tryz.prog 48 #[.slice a xs.length c] w fun e w' =>
      (∃ a' c', e = .returned (.slice a' (recA xs).length c') ∧ w'.ownsRow w.heap.size 3 1 (.slice a' (recA xs).length c') (recA xs).length (icells (recA xs))) ∧ Below w.heap.size w w' := by
  by_cases h1000 : xs.length ≤ 1000
  · have HA : Hid (recA xs = recy xs) := hidQ (recA_yes h1000)
    go_enter Tryz.func48, Tryz.ntmps48
    go_wp2
    go_loopw [3, 13] (fun v i wr => ∃ (k : Nat) (a' : Option Addr) (c' : Nat) (ys : List Int), k ≤ xs.length ∧ i = .int .i64 k ∧ v = .slice a' k c' ∧ ys.length = k ∧ ys.Perm (xs.take k) ∧ Falls ys ∧ wr.ownsRow w.heap.size 3 1 (.slice a' k c') k (icells ys) ∧ Below w.heap.size w wr) (fun _ i _ => xs.length - (intOf i).toNat)
    case atStart => exact ⟨0, none, 0, [], by omega, rfl, rfl, rfl, by simp, List.Pairwise.nil, World.ownsRow_nil _ _ _ _, Below.refl _ _⟩
    case round =>
      obtain ⟨k, a', c', ys, hk, rfl, rfl, hyl, hp, hf, ho, hb⟩ := hrel
      have HP := hidQ hp
      have HF := hidQ hf
      by_cases hkl : k < xs.length
      · obtain ⟨t, htk⟩ : ∃ t, xs[k]? = some t := ⟨xs[k], by simp [hkl]⟩
        obtain ⟨b, o, rfl, hq, d0⟩ := (hv.below hb).get htk
        have hsz := hb.size
        have HT : Hid (xs.take (k + 1) = xs.take k ++ [t]) := hidQ (by rw [List.take_add_one, htk]; rfl)
        rcases ho.2 with ⟨he, hk0⟩ | ⟨g, cap, cur, he, hgb, hbk, hkc, hcm, _, _⟩
        · simp only [Value.slice.injEq] at he
          obtain ⟨rfl, rfl, rfl⟩ := he
          have hy0 : ys = [] := List.eq_nil_of_length_eq_zero hyl
          subst hy0
          clear hp hf ho
          rw [Nat.add_zero] at d0
          go_wp2
          go_loopw [6] (fun i w2 => i = .int .i64 0 ∧ w2 = wr) (fun i _ => (intOf i).toNat)
          case atStart => exact ⟨rfl, rfl⟩
          obtain ⟨rfl, rfl⟩ := hrel
          go_wp2_with (first | (at_builtin; refine wpList_append_any (by rfl) (.tmp 32) (.tmp 35) 23 (by rfl) w.heap.size 3 _ 1 8 Tryz.underlying23 infoIntR (by rfl) (by omega) _ 0 _ (by rfl) (World.ownsRow_nil _ _ _ _) none 0 0 (by rfl) [] (by rfl) (fun _ => rfl) (fun _ e => by cases e) (by simp) (by unfold maxLen; omega) (by omega) hsz ?_; intro a1 c1 w1 ho1 hg1 hl1; have HO1 := hidQ (show w1.ownsRow w.heap.size 3 1 (.slice a1 0 c1) 0 (icells []) from by simpa [icells] using ho1.out); have hz1 : w.heap.size ≤ w1.heap.size := Nat.le_trans hsz hg1.out.size) | (at_builtin; refine wpList_append_any (by rfl) (.tmp 37) (.tmp 39) 23 (by rfl) w.heap.size 3 _ 1 8 Tryz.underlying23 infoIntR (by rfl) (by omega) _ 0 _ (by rfl) (HO1.out.alloc _) (some ⟨w1.heap.size, 0, none⟩) 1 1 (by rfl) (icells [t]) (by rfl) (fun e => by cases e) (one_news _ t _ _ rfl) (icells_one _) (by unfold maxLen; omega) (by omega) (by simp; omega) ?_; intro a2 c2 w2 ho2 hg2 hl2; have HO2 := hidQ (show w2.ownsRow w.heap.size 3 1 (.slice a2 (0 + 1) c2) (0 + 1) (icells (([] : List Int) ++ [t])) from by rw [icells_append]; exact ho2.out); have hz2 : w.heap.size ≤ w2.heap.size := by have := hg2.out.size; simp at this; omega) | (at_builtin; refine wpList_append_any (by rfl) (.tmp 41) (.tmp 44) 23 (by rfl) w.heap.size 3 _ 1 8 Tryz.underlying23 infoIntR (by rfl) (by omega) _ (0 + 1) _ (by rfl) HO2.out none 0 0 (by rfl) (icells []) (by simp [icells]) (fun _ => rfl) (fun _ e => by cases e) (icells_one _) (by unfold maxLen; omega) (by omega) hz2 ?_; intro a3 c3 w3 ho3 hg3 hl3) | fail)
          have hB1 : Below w.heap.size w w1 := hb.grown hg1.out hsz (fun j hj => by simp [Value.ownBlock] at hj)
          have hB2 : Below w.heap.size w w2 := (hB1.alloc hz1 _).grown hg2.out (by simp; omega) (fun j hj => (HO1.out.lt j hj).1)
          have hB3 : Below w.heap.size w w3 := hB2.grown hg3.out hz2 (fun j hj => (HO2.out.lt j hj).1)
          have HO3 := hidQ (show w3.ownsRow w.heap.size 3 1 (.slice a3 (0 + 1) c3) (0 + 1) (icells (([] : List Int) ++ [t] ++ ([] : List Int))) from by have h := ho3.out; rw [show 0 + 1 + 0 = 0 + 1 by omega] at h; rw [icells_append (([] : List Int) ++ [t])]; exact h)
          have HE := hidQ (show 0 + 1 + 0 = 0 + 1 by omega)
          go_roundw
          case rel => exact ⟨0 + 1, a3, c3, ([] : List Int) ++ [t] ++ ([] : List Int), by omega, by go_num, by rw [HE.out], rfl, by rw [HT.out]; exact perm_put [] 0 t HP.out, falls_put HF.out (k := 0) (by simp) (by simp) (.inl rfl), HO3.out, hB3⟩
          case measure => simp [intOf]; omega
        · simp only [Value.slice.injEq] at he
          obtain ⟨rfl, _, rfl⟩ := he
          have HO := hidQ ho
          unfold maxLen at hcm
          clear hp hf ho
          go_wp2
          go_loopw [6] (fun i w2 => ∃ (m : Nat), m ≤ k ∧ i = .int .i64 m ∧ (∀ y ∈ ys.drop m, y < t) ∧ w2 = wr) (fun i _ => (intOf i).toNat)
          case atStart => exact ⟨k, by omega, rfl, by rw [List.drop_eq_nil_of_le (by omega)]; simp, rfl⟩
          case round =>
            obtain ⟨m, hm, rfl, hd, rfl⟩ := hrel
            have HD := hidQ hd
            clear hd
            rcases Nat.eq_zero_or_pos m with hm0 | hmp
            · have HX : Hid ((0 : Nat) = 0 ∨ ∃ x, ys[0 - 1]? = some x ∧ t ≤ x) := hidQ (.inl rfl)
              subst hm0
              go_wp2_with (first | (at_builtin; refine wpList_append_any (by rfl) (.tmp 32) (.tmp 35) 23 (by rfl) w.heap.size 3 _ 1 8 Tryz.underlying23 infoIntR (by rfl) (by omega) _ 0 _ (by rfl) (World.ownsRow_nil _ _ _ _) (some ⟨g, 0, none⟩) 0 c' (by rfl) (icells (ys.take 0)) (by rw [icells_len, List.length_take]; omega) (fun e => by cases e) (own_news HO.out rfl (fun _ _ => take_at)) (icells_one _) (by unfold maxLen; omega) (by omega) hsz ?_; intro a1 c1 w1 ho1 hg1 hl1; have HO1 := hidQ (show w1.ownsRow w.heap.size 3 1 (.slice a1 0 c1) 0 (icells (ys.take 0)) from by simpa [icells] using ho1.out); have hz1 : w.heap.size ≤ w1.heap.size := Nat.le_trans hsz hg1.out.size) | (at_builtin; refine wpList_append_any (by rfl) (.tmp 37) (.tmp 39) 23 (by rfl) w.heap.size 3 _ 1 8 Tryz.underlying23 infoIntR (by rfl) (by omega) _ 0 _ (by rfl) (HO1.out.alloc _) (some ⟨w1.heap.size, 0, none⟩) 1 1 (by rfl) (icells [t]) (by rfl) (fun e => by cases e) (one_news _ t _ _ rfl) (icells_one _) (by unfold maxLen; omega) (by omega) (by simp; omega) ?_; intro a2 c2 w2 ho2 hg2 hl2; have HO2 := hidQ (show w2.ownsRow w.heap.size 3 1 (.slice a2 (0 + 1) c2) (0 + 1) (icells (ys.take 0 ++ [t])) from by rw [icells_append]; exact ho2.out); have hz2 : w.heap.size ≤ w2.heap.size := by have := hg2.out.size; simp at this; omega) | (at_builtin; refine wpList_append_any (by rfl) (.tmp 41) (.tmp 44) 23 (by rfl) w.heap.size 3 _ 1 8 Tryz.underlying23 infoIntR (by rfl) (by omega) _ (0 + 1) _ (by rfl) HO2.out (some ⟨g, 0, none⟩) k c' (by rfl) (icells (ys.drop 0)) (by rw [icells_len, List.length_drop]; omega) (fun e => by cases e) (own_news (keep2 HO.out hg1.out hl1.out hg2.out) rfl (fun _ _ => drop_at)) (icells_one _) (by unfold maxLen; omega) (by omega) hz2 ?_; intro a3 c3 w3 ho3 hg3 hl3) | fail)
              have hB1 : Below w.heap.size w w1 := hb.grown hg1.out hsz (fun j hj => by simp [Value.ownBlock] at hj)
              have hB2 : Below w.heap.size w w2 := (hB1.alloc hz1 _).grown hg2.out (by simp; omega) (fun j hj => (HO1.out.lt j hj).1)
              have hB3 : Below w.heap.size w w3 := hB2.grown hg3.out hz2 (fun j hj => (HO2.out.lt j hj).1)
              have HO3 := hidQ (show w3.ownsRow w.heap.size 3 1 (.slice a3 (k + 1) c3) (k + 1) (icells (ys.take 0 ++ [t] ++ ys.drop 0)) from by have h := ho3.out; rw [show 0 + 1 + k = k + 1 by omega] at h; rw [icells_append (ys.take 0 ++ [t])]; exact h)
              have HE := hidQ (show 0 + 1 + k = k + 1 by omega)
              go_roundw
              case rel => exact ⟨k + 1, a3, c3, ys.take 0 ++ [t] ++ ys.drop 0, by omega, by go_num, by rw [HE.out], by simp [hyl], by rw [HT.out]; exact perm_put ys 0 t HP.out, falls_put HF.out (k := 0) (by omega) HD.out HX.out, HO3.out, hB3⟩
              case measure => simp [intOf]; omega
            · obtain ⟨x, hx⟩ : ∃ x, ys[m - 1]? = some x := ⟨ys[m - 1]'(by omega), List.getElem?_eq_getElem (by omega)⟩
              have hx' : (icells ys)[m - 1]? = some (.int .i64 x) := by unfold icells; rw [List.getElem?_map, hx]; rfl
              obtain ⟨g', hge, _, hcx, _⟩ := owns_cell HO.out hx'
              simp only [Option.some.injEq, Addr.mk.injEq, and_true] at hge
              subst hge
              have hmi : (0 : Int) < (m : Int) := by omega
              have hm1 : ((m : Int) - 1) = ((m - 1 : Nat) : Int) := by omega
              by_cases hxt : x < t
              · have HDn := hidQ (show ∀ y ∈ ys.drop (m - 1), y < t from by
                  intro y hy
                  rw [List.drop_eq_getElem_cons (by omega : m - 1 < ys.length)] at hy
                  rcases List.mem_cons.1 hy with e | hy
                  · rw [List.getElem?_eq_getElem (by omega)] at hx
                    injection hx with hx
                    omega
                  · exact HD.out y (by rwa [show m - 1 + 1 = m by omega] at hy))
                go_wp2_with fail
                go_roundw
                case rel => exact ⟨m - 1, by omega, rfl, HDn.out, by first | trivial | rfl⟩
                case measure => simp [intOf]; omega
              · have HX : Hid (m = 0 ∨ ∃ x, ys[m - 1]? = some x ∧ t ≤ x) := hidQ (.inr ⟨x, hx, by omega⟩)
                by_cases hcm' : c' = m
                · have hkm : k = m := by omega
                  subst hcm' hkm
                  go_wp2_with (first | (at_builtin; refine wpList_append_any (by rfl) (.tmp 32) (.tmp 35) 23 (by rfl) w.heap.size 3 _ 1 8 Tryz.underlying23 infoIntR (by rfl) (by omega) _ 0 _ (by rfl) (World.ownsRow_nil _ _ _ _) (some ⟨g, 0, none⟩) k k (by rfl) (icells (ys.take k)) (by rw [icells_len, List.length_take]; omega) (fun e => by cases e) (own_news HO.out rfl (fun _ _ => take_at)) (icells_one _) (by unfold maxLen; omega) (by omega) hsz ?_; intro a1 c1 w1 ho1 hg1 hl1; have HO1 := hidQ (show w1.ownsRow w.heap.size 3 1 (.slice a1 k c1) k (icells (ys.take k)) from by simpa [icells] using ho1.out); have hz1 : w.heap.size ≤ w1.heap.size := Nat.le_trans hsz hg1.out.size) | (at_builtin; refine wpList_append_any (by rfl) (.tmp 37) (.tmp 39) 23 (by rfl) w.heap.size 3 _ 1 8 Tryz.underlying23 infoIntR (by rfl) (by omega) _ k _ (by rfl) (HO1.out.alloc _) (some ⟨w1.heap.size, 0, none⟩) 1 1 (by rfl) (icells [t]) (by rfl) (fun e => by cases e) (one_news _ t _ _ rfl) (icells_one _) (by unfold maxLen; omega) (by omega) (by simp; omega) ?_; intro a2 c2 w2 ho2 hg2 hl2; have HO2 := hidQ (show w2.ownsRow w.heap.size 3 1 (.slice a2 (k + 1) c2) (k + 1) (icells (ys.take k ++ [t])) from by rw [icells_append]; exact ho2.out); have hz2 : w.heap.size ≤ w2.heap.size := by have := hg2.out.size; simp at this; omega) | (at_builtin; refine wpList_append_any (by rfl) (.tmp 41) (.tmp 44) 23 (by rfl) w.heap.size 3 _ 1 8 Tryz.underlying23 infoIntR (by rfl) (by omega) _ (k + 1) _ (by rfl) HO2.out (some ⟨g, 0, none⟩) 0 0 (by rfl) (icells []) (by simp [icells]) (fun e => by cases e) (fun _ _ j u h => by simp [icells] at h) (icells_one _) (by unfold maxLen; omega) (by omega) hz2 ?_; intro a3 c3 w3 ho3 hg3 hl3) | fail)
                  have hB1 : Below w.heap.size w w1 := hb.grown hg1.out hsz (fun j hj => by simp [Value.ownBlock] at hj)
                  have hB2 : Below w.heap.size w w2 := (hB1.alloc hz1 _).grown hg2.out (by simp; omega) (fun j hj => (HO1.out.lt j hj).1)
                  have hB3 : Below w.heap.size w w3 := hB2.grown hg3.out hz2 (fun j hj => (HO2.out.lt j hj).1)
                  have HO3 := hidQ (show w3.ownsRow w.heap.size 3 1 (.slice a3 (k + 1) c3) (k + 1) (icells (ys.take k ++ [t] ++ ([] : List Int))) from by have h := ho3.out; rw [show k + 1 + 0 = k + 1 by omega] at h; rw [icells_append (ys.take k ++ [t])]; exact h)
                  have HE := hidQ (show k + 1 + 0 = k + 1 by omega)
                  go_roundw
                  case rel => exact ⟨k + 1, a3, c3, ys.take k ++ [t] ++ ([] : List Int), by omega, by go_num, by rw [HE.out], by simp [hyl], by rw [HT.out]; exact (by have h := perm_put ys k t HP.out; rwa [List.drop_eq_nil_of_le (by omega)] at h), (by have h := falls_put HF.out (k := k) (by omega) HD.out HX.out; rwa [List.drop_eq_nil_of_le (by omega)] at h), HO3.out, hB3⟩
                  case measure => simp [intOf]; omega
                · go_wp2_with (first | (at_builtin; refine wpList_append_any (by rfl) (.tmp 32) (.tmp 35) 23 (by rfl) w.heap.size 3 _ 1 8 Tryz.underlying23 infoIntR (by rfl) (by omega) _ 0 _ (by rfl) (World.ownsRow_nil _ _ _ _) (some ⟨g, 0, none⟩) m c' (by rfl) (icells (ys.take m)) (by rw [icells_len, List.length_take]; omega) (fun e => by cases e) (own_news HO.out rfl (fun _ _ => take_at)) (icells_one _) (by unfold maxLen; omega) (by omega) hsz ?_; intro a1 c1 w1 ho1 hg1 hl1; have HO1 := hidQ (show w1.ownsRow w.heap.size 3 1 (.slice a1 m c1) m (icells (ys.take m)) from by simpa [icells] using ho1.out); have hz1 : w.heap.size ≤ w1.heap.size := Nat.le_trans hsz hg1.out.size) | (at_builtin; refine wpList_append_any (by rfl) (.tmp 37) (.tmp 39) 23 (by rfl) w.heap.size 3 _ 1 8 Tryz.underlying23 infoIntR (by rfl) (by omega) _ m _ (by rfl) (HO1.out.alloc _) (some ⟨w1.heap.size, 0, none⟩) 1 1 (by rfl) (icells [t]) (by rfl) (fun e => by cases e) (one_news _ t _ _ rfl) (icells_one _) (by unfold maxLen; omega) (by omega) (by simp; omega) ?_; intro a2 c2 w2 ho2 hg2 hl2; have HO2 := hidQ (show w2.ownsRow w.heap.size 3 1 (.slice a2 (m + 1) c2) (m + 1) (icells (ys.take m ++ [t])) from by rw [icells_append]; exact ho2.out); have hz2 : w.heap.size ≤ w2.heap.size := by have := hg2.out.size; simp at this; omega) | (at_builtin; refine wpList_append_any (by rfl) (.tmp 41) (.tmp 44) 23 (by rfl) w.heap.size 3 _ 1 8 Tryz.underlying23 infoIntR (by rfl) (by omega) _ (m + 1) _ (by rfl) HO2.out (some ⟨g, m, none⟩) (k - m) (c' - m) (by rfl) (icells (ys.drop m)) (by rw [icells_len, List.length_drop]; omega) (fun e => by cases e) (own_news (keep2 HO.out hg1.out hl1.out hg2.out) rfl (fun _ _ => drop_at)) (icells_one _) (by unfold maxLen; omega) (by omega) hz2 ?_; intro a3 c3 w3 ho3 hg3 hl3) | fail)
                  have hB1 : Below w.heap.size w w1 := hb.grown hg1.out hsz (fun j hj => by simp [Value.ownBlock] at hj)
                  have hB2 : Below w.heap.size w w2 := (hB1.alloc hz1 _).grown hg2.out (by simp; omega) (fun j hj => (HO1.out.lt j hj).1)
                  have hB3 : Below w.heap.size w w3 := hB2.grown hg3.out hz2 (fun j hj => (HO2.out.lt j hj).1)
                  have HO3 := hidQ (show w3.ownsRow w.heap.size 3 1 (.slice a3 (k + 1) c3) (k + 1) (icells (ys.take m ++ [t] ++ ys.drop m)) from by have h := ho3.out; rw [show m + 1 + (k - m) = k + 1 by omega] at h; rw [icells_append (ys.take m ++ [t])]; exact h)
                  have HE := hidQ (show m + 1 + (k - m) = k + 1 by omega)
                  go_roundw
                  case rel => exact ⟨k + 1, a3, c3, ys.take m ++ [t] ++ ys.drop m, by omega, by go_num, by rw [HE.out], by simp [hyl]; omega, by rw [HT.out]; exact perm_put ys m t HP.out, falls_put HF.out (k := m) (by omega) HD.out HX.out, HO3.out, hB3⟩
                  case measure => simp [intOf]; omega
      · go_wp2
        go_ret
        have hkk : k = xs.length := by omega
        subst hkk
        have hr : ys = recy xs := recy_eq (by have := HP.out; rwa [List.take_of_length_le (Nat.le_refl _)] at this) HF.out
        have hrl : (recA xs).length = xs.length := by rw [HA.out, recy_len]
        refine ⟨⟨a', c', by rw [hrl]; rfl, ?_⟩, hb⟩
        rw [hrl, HA.out, ← hr]
        exact ho
  · have HA : Hid (recA xs = []) := hidQ (recA_no h1000)
    go_enter Tryz.func48, Tryz.ntmps48
    go_wp2
    go_ret
    refine ⟨⟨none, 0, by rw [HA.out]; rfl, ?_⟩, Below.refl _ _⟩
    rw [HA.out]
    exact World.ownsRow_nil _ _ _ _
end Go.Proofs.YtajgedhmliekoaaGreat
