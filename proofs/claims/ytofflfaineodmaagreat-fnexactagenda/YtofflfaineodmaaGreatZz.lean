/-
  OUR OWN TEXT. Rc2, Bf6, Bf7a, one behind the other.
-/
import Derived.Test.YtofflfaineodmaaGreatZi
import Derived.Deep.RegionHeld3
import Derived.Deep.DrawnRows
import Derived.Test.YtofflfaineodmaaGreatZr
import Derived.Test.YtofflfaineodmaaGreatZn
import Derived.BigQuiet
namespace Go.Proofs.YtofflfaineodmaaGreat
open Go.RowKit
attribute [local go_sem ↓] Go.wp_at_zero Go.wp_at_succ

theorem hidQ {p : Prop} (h : p) : Hid p := h
theorem infoIntR : (Tryz.prog.info? 3).map (fun i => (i.zero, i.size, i.bytes)) = some (some (.int .i64 0), 1, 8) := by kernel_rfl
theorem icells_len (xs : List Int) : (icells xs).length = xs.length := by simp [icells]
theorem icells_append (xs ys : List Int) : icells (xs ++ ys) = icells xs ++ icells ys := by simp [icells]
theorem icells_one (xs : List Int) : ∀ u ∈ icells xs, u.oneCell' = true := by
  intro u hu
  obtain ⟨x, _, rfl⟩ := List.mem_map.1 hu
  rfl
theorem icells_at {xs : List Int} {j : Nat} {u : Value} (h : (icells xs)[j]? = some u) : ∃ x, xs[j]? = some x ∧ u = .int .i64 x := by
  unfold icells at h
  rw [List.getElem?_map] at h
  cases hx : xs[j]? with
  | none => rw [hx] at h; cases h
  | some x => rw [hx] at h; exact ⟨x, rfl, by simpa using h.symm⟩
/-- What append reads of a row that is owned, from place k on. -/
theorem own_news {w : World} {base n : Nat} {a : Option Addr} {c : Nat} {ys : List Int} (h : w.ownsRow base 3 1 (.slice a n c) n (icells ys)) {g k : Nat} (hg : a = some ⟨g, 0, none⟩) {zs : List Int} (hz : ∀ (j : Nat) (x : Int), zs[j]? = some x → ys[k + j]? = some x) :
    ∀ ad, some (⟨g, k, none⟩ : Addr) = some ad → ∀ (j : Nat) u, (icells zs)[j]? = some u → w.cell? (ad.add j) = some u := by
  intro ad e j u hu
  injection e with e
  subst e
  obtain ⟨x, hx, rfl⟩ := icells_at hu
  have hy := hz j x hx
  have hy' : (icells ys)[k + j]? = some (.int .i64 x) := by unfold icells; rw [List.getElem?_map, hy]; rfl
  obtain ⟨g', he, _, hc, _⟩ := owns_cell h hy'
  rw [hg] at he
  injection he with he
  injection he with he
  subst he
  rw [Addr.add_lit]
  exact hc
theorem take_at {ys : List Int} {k j : Nat} {x : Int} (h : (ys.take k)[j]? = some x) : ys[0 + j]? = some x := by
  rw [List.getElem?_take] at h
  rw [Nat.zero_add]
  split at h
  · exact h
  · cases h
theorem drop_at {ys : List Int} {k j : Nat} {x : Int} (h : (ys.drop k)[j]? = some x) : ys[k + j]? = some x := by
  rwa [List.getElem?_drop] at h
theorem one_news (w : World) (t : Int) (ty : TypeId) (g : Nat) (hg : g = w.heap.size) : ∀ ad, some (⟨g, 0, none⟩ : Addr) = some ad → ∀ (j : Nat) u, (icells [t])[j]? = some u → (w.alloc (.cells #[.int .i64 t] ty)).cell? (ad.add j) = some u := by
  intro ad e j u hu
  injection e with e
  subst e hg
  obtain ⟨x, hx, rfl⟩ := icells_at hu
  cases j with
  | zero => simp at hx; subst hx; simp [Addr.add_lit]
  | succ j => simp at hx

/-- Two appends to a new row leave an older one alone. -/
theorem keep2 {wr w1 w2 : World} {base n n1 n2 c c1 : Nat} {ty : TypeId} {a a1 : Option Addr} {o : Obj} {xs : List Value} (h : wr.ownsRow base ty 1 (.slice a n c) n xs) (hg1 : wr.grownBy w1 (Value.slice none 0 0).ownBlock)
    (hl1 : (Value.slice a1 n1 c1).ownBlock = (Value.slice none 0 0).ownBlock ∨ (Value.slice a1 n1 c1).ownBlock = some wr.heap.size) (hg2 : (w1.alloc o).grownBy w2 (Value.slice a1 n2 c1).ownBlock) : w2.ownsRow base ty 1 (.slice a n c) n xs := by
  refine owns_of_block h fun g hg => ?_
  have hlt := (h.lt g hg).2
  have h1 : w1.heap[g]? = wr.heap[g]? := hg1.block g hlt (by simp [Value.ownBlock])
  have hs1 := hg1.size
  have h2 : (w1.alloc o).heap[g]? = w1.heap[g]? := Below.heap_alloc w1 o g (by omega)
  refine (hg2.block g (by simp; omega) ?_).trans (h2.trans h1)
  have hn : (Value.slice a1 n2 c1).ownBlock = (Value.slice a1 n1 c1).ownBlock := by cases a1 <;> rfl
  rcases hl1 with e | e <;> rw [hn, e]
  · simp [Value.ownBlock]
  · intro e'
    injection e' with e'
    omega

set_option maxHeartbeats 3200000 in
theorem sRec_any (a : Option Addr) (c : Nat) (xs : List Int) {q : Option Nat} (w : World) (hv : IntsAt q w a xs) (hl : xs.length ≤ 1048576) :
    Calls Tryz.prog 43 #[.slice a xs.length c] w fun e w' =>
      (∃ a' c', e = .returned (.slice a' (recA xs).length c') ∧ w'.ownsRow w.heap.size 3 1 (.slice a' (recA xs).length c') (recA xs).length (icells (recA xs))) ∧ Below w.heap.size w w' := by
  by_cases h1000 : xs.length ≤ 1000
  · have HA : Hid (recA xs = recy xs) := hidQ (recA_yes h1000)
    go_enter Tryz.func43, Tryz.ntmps43
    go_wp2
    go_loopw [3, 13] (fun v i wr => ∃ (k : Nat) (a' : Option Addr) (c' : Nat) (ys : List Int), k ≤ xs.length ∧ i = .int .i64 k ∧ v = .slice a' k c' ∧ ys.length = k ∧ ys.Perm (xs.take k) ∧ Falls ys ∧ wr.ownsRow w.heap.size 3 1 (.slice a' k c') k (icells ys) ∧ Below w.heap.size w wr) (fun _ i _ => xs.length - (intOf i).toNat)
    case atStart => exact ⟨0, none, 0, [], by omega, rfl, rfl, rfl, by simp, List.Pairwise.nil, World.ownsRow_nil _ _ _ _, Below.refl _ _⟩
    case round =>
      obtain ⟨k, a', c', ys, hk, rfl, rfl, hyl, hp, hf, ho, hb⟩ := hrel
      have HP := hidQ hp
      have HF := hidQ hf
      by_cases hkl : k < xs.length
      · obtain ⟨t, htk⟩ : ∃ t, xs[k]? = some t := ⟨xs[k], by simp [hkl]⟩
        obtain ⟨b, o, rfl, hq, d0⟩ := (hv.below hb).get htk
        have hsz := hb.size
        have HT : Hid (xs.take (k + 1) = xs.take k ++ [t]) := hidQ (by rw [List.take_add_one, htk]; rfl)
        rcases ho.2 with ⟨he, hk0⟩ | ⟨g, cap, cur, he, hgb, hbk, hkc, hcm, _, _⟩
        · simp only [Value.slice.injEq] at he
          obtain ⟨rfl, rfl, rfl⟩ := he
          have hy0 : ys = [] := List.eq_nil_of_length_eq_zero hyl
          subst hy0
          clear hp hf ho
          rw [Nat.add_zero] at d0
          go_wp2
          go_loopw [6] (fun i w2 => i = .int .i64 0 ∧ w2 = wr) (fun i _ => (intOf i).toNat)
          case atStart => exact ⟨rfl, rfl⟩
          obtain ⟨rfl, rfl⟩ := hrel
          go_wp2_with (first | (at_builtin; refine wpList_append_any (by rfl) (.tmp 32) (.tmp 35) 43 (by rfl) w.heap.size 3 _ 1 8 Tryz.underlying43 infoIntR (by rfl) (by omega) _ 0 _ (by rfl) (World.ownsRow_nil _ _ _ _) none 0 0 (by rfl) [] (by rfl) (fun _ => rfl) (fun _ e => by cases e) (by simp) (by unfold maxLen; omega) (by omega) hsz ?_; intro a1 c1 w1 ho1 hg1 hl1; have HO1 := hidQ (show w1.ownsRow w.heap.size 3 1 (.slice a1 0 c1) 0 (icells []) from by simpa [icells] using ho1.out); have hz1 : w.heap.size ≤ w1.heap.size := Nat.le_trans hsz hg1.out.size) | (at_builtin; refine wpList_append_any (by rfl) (.tmp 37) (.tmp 39) 43 (by rfl) w.heap.size 3 _ 1 8 Tryz.underlying43 infoIntR (by rfl) (by omega) _ 0 _ (by rfl) (HO1.out.alloc _) (some ⟨w1.heap.size, 0, none⟩) 1 1 (by rfl) (icells [t]) (by rfl) (fun e => by cases e) (one_news _ t _ _ rfl) (icells_one _) (by unfold maxLen; omega) (by omega) (by simp; omega) ?_; intro a2 c2 w2 ho2 hg2 hl2; have HO2 := hidQ (show w2.ownsRow w.heap.size 3 1 (.slice a2 (0 + 1) c2) (0 + 1) (icells (([] : List Int) ++ [t])) from by rw [icells_append]; exact ho2.out); have hz2 : w.heap.size ≤ w2.heap.size := by have := hg2.out.size; simp at this; omega) | (at_builtin; refine wpList_append_any (by rfl) (.tmp 41) (.tmp 44) 43 (by rfl) w.heap.size 3 _ 1 8 Tryz.underlying43 infoIntR (by rfl) (by omega) _ (0 + 1) _ (by rfl) HO2.out none 0 0 (by rfl) (icells []) (by simp [icells]) (fun _ => rfl) (fun _ e => by cases e) (icells_one _) (by unfold maxLen; omega) (by omega) hz2 ?_; intro a3 c3 w3 ho3 hg3 hl3) | fail)
          have hB1 : Below w.heap.size w w1 := hb.grown hg1.out hsz (fun j hj => by simp [Value.ownBlock] at hj)
          have hB2 : Below w.heap.size w w2 := (hB1.alloc hz1 _).grown hg2.out (by simp; omega) (fun j hj => (HO1.out.lt j hj).1)
          have hB3 : Below w.heap.size w w3 := hB2.grown hg3.out hz2 (fun j hj => (HO2.out.lt j hj).1)
          have HO3 := hidQ (show w3.ownsRow w.heap.size 3 1 (.slice a3 (0 + 1) c3) (0 + 1) (icells (([] : List Int) ++ [t] ++ ([] : List Int))) from by have h := ho3.out; rw [show 0 + 1 + 0 = 0 + 1 by omega] at h; rw [icells_append (([] : List Int) ++ [t])]; exact h)
          have HE := hidQ (show 0 + 1 + 0 = 0 + 1 by omega)
          go_roundw
          case rel => exact ⟨0 + 1, a3, c3, ([] : List Int) ++ [t] ++ ([] : List Int), by omega, by go_num, by rw [HE.out], rfl, by rw [HT.out]; exact perm_put [] 0 t HP.out, falls_put HF.out (k := 0) (by simp) (by simp) (.inl rfl), HO3.out, hB3⟩
          case measure => simp [intOf]; omega
        · simp only [Value.slice.injEq] at he
          obtain ⟨rfl, _, rfl⟩ := he
          have HO := hidQ ho
          unfold maxLen at hcm
          clear hp hf ho
          go_wp2
          go_loopw [6] (fun i w2 => ∃ (m : Nat), m ≤ k ∧ i = .int .i64 m ∧ (∀ y ∈ ys.drop m, y < t) ∧ w2 = wr) (fun i _ => (intOf i).toNat)
          case atStart => exact ⟨k, by omega, rfl, by rw [List.drop_eq_nil_of_le (by omega)]; simp, rfl⟩
          case round =>
            obtain ⟨m, hm, rfl, hd, rfl⟩ := hrel
            have HD := hidQ hd
            clear hd
            rcases Nat.eq_zero_or_pos m with hm0 | hmp
            · have HX : Hid ((0 : Nat) = 0 ∨ ∃ x, ys[0 - 1]? = some x ∧ t ≤ x) := hidQ (.inl rfl)
              subst hm0
              go_wp2_with (first | (at_builtin; refine wpList_append_any (by rfl) (.tmp 32) (.tmp 35) 43 (by rfl) w.heap.size 3 _ 1 8 Tryz.underlying43 infoIntR (by rfl) (by omega) _ 0 _ (by rfl) (World.ownsRow_nil _ _ _ _) (some ⟨g, 0, none⟩) 0 c' (by rfl) (icells (ys.take 0)) (by rw [icells_len, List.length_take]; omega) (fun e => by cases e) (own_news HO.out rfl (fun _ _ => take_at)) (icells_one _) (by unfold maxLen; omega) (by omega) hsz ?_; intro a1 c1 w1 ho1 hg1 hl1; have HO1 := hidQ (show w1.ownsRow w.heap.size 3 1 (.slice a1 0 c1) 0 (icells (ys.take 0)) from by simpa [icells] using ho1.out); have hz1 : w.heap.size ≤ w1.heap.size := Nat.le_trans hsz hg1.out.size) | (at_builtin; refine wpList_append_any (by rfl) (.tmp 37) (.tmp 39) 43 (by rfl) w.heap.size 3 _ 1 8 Tryz.underlying43 infoIntR (by rfl) (by omega) _ 0 _ (by rfl) (HO1.out.alloc _) (some ⟨w1.heap.size, 0, none⟩) 1 1 (by rfl) (icells [t]) (by rfl) (fun e => by cases e) (one_news _ t _ _ rfl) (icells_one _) (by unfold maxLen; omega) (by omega) (by simp; omega) ?_; intro a2 c2 w2 ho2 hg2 hl2; have HO2 := hidQ (show w2.ownsRow w.heap.size 3 1 (.slice a2 (0 + 1) c2) (0 + 1) (icells (ys.take 0 ++ [t])) from by rw [icells_append]; exact ho2.out); have hz2 : w.heap.size ≤ w2.heap.size := by have := hg2.out.size; simp at this; omega) | (at_builtin; refine wpList_append_any (by rfl) (.tmp 41) (.tmp 44) 43 (by rfl) w.heap.size 3 _ 1 8 Tryz.underlying43 infoIntR (by rfl) (by omega) _ (0 + 1) _ (by rfl) HO2.out (some ⟨g, 0, none⟩) k c' (by rfl) (icells (ys.drop 0)) (by rw [icells_len, List.length_drop]; omega) (fun e => by cases e) (own_news (keep2 HO.out hg1.out hl1.out hg2.out) rfl (fun _ _ => drop_at)) (icells_one _) (by unfold maxLen; omega) (by omega) hz2 ?_; intro a3 c3 w3 ho3 hg3 hl3) | fail)
              have hB1 : Below w.heap.size w w1 := hb.grown hg1.out hsz (fun j hj => by simp [Value.ownBlock] at hj)
              have hB2 : Below w.heap.size w w2 := (hB1.alloc hz1 _).grown hg2.out (by simp; omega) (fun j hj => (HO1.out.lt j hj).1)
              have hB3 : Below w.heap.size w w3 := hB2.grown hg3.out hz2 (fun j hj => (HO2.out.lt j hj).1)
              have HO3 := hidQ (show w3.ownsRow w.heap.size 3 1 (.slice a3 (k + 1) c3) (k + 1) (icells (ys.take 0 ++ [t] ++ ys.drop 0)) from by have h := ho3.out; rw [show 0 + 1 + k = k + 1 by omega] at h; rw [icells_append (ys.take 0 ++ [t])]; exact h)
              have HE := hidQ (show 0 + 1 + k = k + 1 by omega)
              go_roundw
              case rel => exact ⟨k + 1, a3, c3, ys.take 0 ++ [t] ++ ys.drop 0, by omega, by go_num, by rw [HE.out], by simp [hyl], by rw [HT.out]; exact perm_put ys 0 t HP.out, falls_put HF.out (k := 0) (by omega) HD.out HX.out, HO3.out, hB3⟩
              case measure => simp [intOf]; omega
            · obtain ⟨x, hx⟩ : ∃ x, ys[m - 1]? = some x := ⟨ys[m - 1]'(by omega), List.getElem?_eq_getElem (by omega)⟩
              have hx' : (icells ys)[m - 1]? = some (.int .i64 x) := by unfold icells; rw [List.getElem?_map, hx]; rfl
              obtain ⟨g', hge, _, hcx, _⟩ := owns_cell HO.out hx'
              simp only [Option.some.injEq, Addr.mk.injEq, and_true] at hge
              subst hge
              have hmi : (0 : Int) < (m : Int) := by omega
              have hm1 : ((m : Int) - 1) = ((m - 1 : Nat) : Int) := by omega
              by_cases hxt : x < t
              · have HDn := hidQ (show ∀ y ∈ ys.drop (m - 1), y < t from by
                  intro y hy
                  rw [List.drop_eq_getElem_cons (by omega : m - 1 < ys.length)] at hy
                  rcases List.mem_cons.1 hy with e | hy
                  · rw [List.getElem?_eq_getElem (by omega)] at hx
                    injection hx with hx
                    omega
                  · exact HD.out y (by rwa [show m - 1 + 1 = m by omega] at hy))
                go_wp2_with fail
                go_roundw
                case rel => exact ⟨m - 1, by omega, rfl, HDn.out, by first | trivial | rfl⟩
                case measure => simp [intOf]; omega
              · have HX : Hid (m = 0 ∨ ∃ x, ys[m - 1]? = some x ∧ t ≤ x) := hidQ (.inr ⟨x, hx, by omega⟩)
                by_cases hcm' : c' = m
                · have hkm : k = m := by omega
                  subst hcm' hkm
                  go_wp2_with (first | (at_builtin; refine wpList_append_any (by rfl) (.tmp 32) (.tmp 35) 43 (by rfl) w.heap.size 3 _ 1 8 Tryz.underlying43 infoIntR (by rfl) (by omega) _ 0 _ (by rfl) (World.ownsRow_nil _ _ _ _) (some ⟨g, 0, none⟩) k k (by rfl) (icells (ys.take k)) (by rw [icells_len, List.length_take]; omega) (fun e => by cases e) (own_news HO.out rfl (fun _ _ => take_at)) (icells_one _) (by unfold maxLen; omega) (by omega) hsz ?_; intro a1 c1 w1 ho1 hg1 hl1; have HO1 := hidQ (show w1.ownsRow w.heap.size 3 1 (.slice a1 k c1) k (icells (ys.take k)) from by simpa [icells] using ho1.out); have hz1 : w.heap.size ≤ w1.heap.size := Nat.le_trans hsz hg1.out.size) | (at_builtin; refine wpList_append_any (by rfl) (.tmp 37) (.tmp 39) 43 (by rfl) w.heap.size 3 _ 1 8 Tryz.underlying43 infoIntR (by rfl) (by omega) _ k _ (by rfl) (HO1.out.alloc _) (some ⟨w1.heap.size, 0, none⟩) 1 1 (by rfl) (icells [t]) (by rfl) (fun e => by cases e) (one_news _ t _ _ rfl) (icells_one _) (by unfold maxLen; omega) (by omega) (by simp; omega) ?_; intro a2 c2 w2 ho2 hg2 hl2; have HO2 := hidQ (show w2.ownsRow w.heap.size 3 1 (.slice a2 (k + 1) c2) (k + 1) (icells (ys.take k ++ [t])) from by rw [icells_append]; exact ho2.out); have hz2 : w.heap.size ≤ w2.heap.size := by have := hg2.out.size; simp at this; omega) | (at_builtin; refine wpList_append_any (by rfl) (.tmp 41) (.tmp 44) 43 (by rfl) w.heap.size 3 _ 1 8 Tryz.underlying43 infoIntR (by rfl) (by omega) _ (k + 1) _ (by rfl) HO2.out (some ⟨g, 0, none⟩) 0 0 (by rfl) (icells []) (by simp [icells]) (fun e => by cases e) (fun _ _ j u h => by simp [icells] at h) (icells_one _) (by unfold maxLen; omega) (by omega) hz2 ?_; intro a3 c3 w3 ho3 hg3 hl3) | fail)
                  have hB1 : Below w.heap.size w w1 := hb.grown hg1.out hsz (fun j hj => by simp [Value.ownBlock] at hj)
                  have hB2 : Below w.heap.size w w2 := (hB1.alloc hz1 _).grown hg2.out (by simp; omega) (fun j hj => (HO1.out.lt j hj).1)
                  have hB3 : Below w.heap.size w w3 := hB2.grown hg3.out hz2 (fun j hj => (HO2.out.lt j hj).1)
                  have HO3 := hidQ (show w3.ownsRow w.heap.size 3 1 (.slice a3 (k + 1) c3) (k + 1) (icells (ys.take k ++ [t] ++ ([] : List Int))) from by have h := ho3.out; rw [show k + 1 + 0 = k + 1 by omega] at h; rw [icells_append (ys.take k ++ [t])]; exact h)
                  have HE := hidQ (show k + 1 + 0 = k + 1 by omega)
                  go_roundw
                  case rel => exact ⟨k + 1, a3, c3, ys.take k ++ [t] ++ ([] : List Int), by omega, by go_num, by rw [HE.out], by simp [hyl], by rw [HT.out]; exact (by have h := perm_put ys k t HP.out; rwa [List.drop_eq_nil_of_le (by omega)] at h), (by have h := falls_put HF.out (k := k) (by omega) HD.out HX.out; rwa [List.drop_eq_nil_of_le (by omega)] at h), HO3.out, hB3⟩
                  case measure => simp [intOf]; omega
                · go_wp2_with (first | (at_builtin; refine wpList_append_any (by rfl) (.tmp 32) (.tmp 35) 43 (by rfl) w.heap.size 3 _ 1 8 Tryz.underlying43 infoIntR (by rfl) (by omega) _ 0 _ (by rfl) (World.ownsRow_nil _ _ _ _) (some ⟨g, 0, none⟩) m c' (by rfl) (icells (ys.take m)) (by rw [icells_len, List.length_take]; omega) (fun e => by cases e) (own_news HO.out rfl (fun _ _ => take_at)) (icells_one _) (by unfold maxLen; omega) (by omega) hsz ?_; intro a1 c1 w1 ho1 hg1 hl1; have HO1 := hidQ (show w1.ownsRow w.heap.size 3 1 (.slice a1 m c1) m (icells (ys.take m)) from by simpa [icells] using ho1.out); have hz1 : w.heap.size ≤ w1.heap.size := Nat.le_trans hsz hg1.out.size) | (at_builtin; refine wpList_append_any (by rfl) (.tmp 37) (.tmp 39) 43 (by rfl) w.heap.size 3 _ 1 8 Tryz.underlying43 infoIntR (by rfl) (by omega) _ m _ (by rfl) (HO1.out.alloc _) (some ⟨w1.heap.size, 0, none⟩) 1 1 (by rfl) (icells [t]) (by rfl) (fun e => by cases e) (one_news _ t _ _ rfl) (icells_one _) (by unfold maxLen; omega) (by omega) (by simp; omega) ?_; intro a2 c2 w2 ho2 hg2 hl2; have HO2 := hidQ (show w2.ownsRow w.heap.size 3 1 (.slice a2 (m + 1) c2) (m + 1) (icells (ys.take m ++ [t])) from by rw [icells_append]; exact ho2.out); have hz2 : w.heap.size ≤ w2.heap.size := by have := hg2.out.size; simp at this; omega) | (at_builtin; refine wpList_append_any (by rfl) (.tmp 41) (.tmp 44) 43 (by rfl) w.heap.size 3 _ 1 8 Tryz.underlying43 infoIntR (by rfl) (by omega) _ (m + 1) _ (by rfl) HO2.out (some ⟨g, m, none⟩) (k - m) (c' - m) (by rfl) (icells (ys.drop m)) (by rw [icells_len, List.length_drop]; omega) (fun e => by cases e) (own_news (keep2 HO.out hg1.out hl1.out hg2.out) rfl (fun _ _ => drop_at)) (icells_one _) (by unfold maxLen; omega) (by omega) hz2 ?_; intro a3 c3 w3 ho3 hg3 hl3) | fail)
                  have hB1 : Below w.heap.size w w1 := hb.grown hg1.out hsz (fun j hj => by simp [Value.ownBlock] at hj)
                  have hB2 : Below w.heap.size w w2 := (hB1.alloc hz1 _).grown hg2.out (by simp; omega) (fun j hj => (HO1.out.lt j hj).1)
                  have hB3 : Below w.heap.size w w3 := hB2.grown hg3.out hz2 (fun j hj => (HO2.out.lt j hj).1)
                  have HO3 := hidQ (show w3.ownsRow w.heap.size 3 1 (.slice a3 (k + 1) c3) (k + 1) (icells (ys.take m ++ [t] ++ ys.drop m)) from by have h := ho3.out; rw [show m + 1 + (k - m) = k + 1 by omega] at h; rw [icells_append (ys.take m ++ [t])]; exact h)
                  have HE := hidQ (show m + 1 + (k - m) = k + 1 by omega)
                  go_roundw
                  case rel => exact ⟨k + 1, a3, c3, ys.take m ++ [t] ++ ys.drop m, by omega, by go_num, by rw [HE.out], by simp [hyl]; omega, by rw [HT.out]; exact perm_put ys m t HP.out, falls_put HF.out (k := m) (by omega) HD.out HX.out, HO3.out, hB3⟩
                  case measure => simp [intOf]; omega
      · go_wp2
        go_ret
        have hkk : k = xs.length := by omega
        subst hkk
        have hr : ys = recy xs := recy_eq (by have := HP.out; rwa [List.take_of_length_le (Nat.le_refl _)] at this) HF.out
        have hrl : (recA xs).length = xs.length := by rw [HA.out, recy_len]
        refine ⟨⟨a', c', by rw [hrl]; rfl, ?_⟩, hb⟩
        rw [hrl, HA.out, ← hr]
        exact ho
  · have HA : Hid (recA xs = []) := hidQ (recA_no h1000)
    go_enter Tryz.func43, Tryz.ntmps43
    go_wp2
    go_ret
    refine ⟨⟨none, 0, by rw [HA.out]; rfl, ?_⟩, Below.refl _ _⟩
    rw [HA.out]
    exact World.ownsRow_nil _ _ _ _
end Go.Proofs.YtofflfaineodmaaGreat

namespace Go.Proofs.YtofflfaineodmaaGreat
open Go.RowKit
attribute [local go_sem ↓] Go.wp_at_zero Go.wp_at_succ

theorem hidS {p : Prop} (h : p) : Hid p := h
theorem retIs {a b : Int} (h : b = a) : Ending.returned (.int .i64 a) = .returned (.int .i64 b) := by rw [h]
theorem lexT_drop {xs ys : List Int} {k : Nat} {x y : Int} (hx : xs[k]? = some x) (hy : ys[k]? = some y) : lexT (xs.drop k) (ys.drop k) = if x < y then -1 else if y < x then 1 else lexT (xs.drop (k + 1)) (ys.drop (k + 1)) := by
  rw [drop_cons hx, drop_cons hy, lexT]
theorem lexT_end {xs ys : List Int} {k : Nat} (hx : k ≤ xs.length) (hy : k ≤ ys.length) (h : k = xs.length ∨ k = ys.length) : lexT (xs.drop k) (ys.drop k) = (xs.length : Int) - (ys.length : Int) := by
  rcases h with h | h
  · rw [(List.drop_eq_nil_of_le (by omega) : xs.drop k = []), lexT, List.length_drop]
    omega
  · rw [(List.drop_eq_nil_of_le (by omega) : ys.drop k = [])]
    cases hd : xs.drop k with
    | nil =>
      have : xs.length - k = 0 := by rw [← List.length_drop, hd]; rfl
      simp [lexT]
      omega
    | cons z r =>
      have : (z :: r).length = xs.length - k := by rw [← hd, List.length_drop]
      rw [lexT, this]
      omega

set_option maxHeartbeats 1600000 in
theorem l5Tags_any (a a' : Option Addr) (c c' : Nat) (xs ys : List Int) (w : World) {q q' : Option Nat} (hv : IntsAt q w a xs) (hv' : IntsAt q' w a' ys) (hl : xs.length ≤ 1048576) (hl' : ys.length ≤ 1048576) :
    Calls Tryz.prog 42 #[.slice a xs.length c, .slice a' ys.length c'] w fun e w' => e = .returned (.int .i64 (lexT xs ys)) ∧ Below w.heap.size w w' := by
  go_enter Tryz.func42, Tryz.ntmps42
  go_wp2
  go_loopw [5] (fun i wr => ∃ (k : Nat), k ≤ xs.length ∧ k ≤ ys.length ∧ i = .int .i64 k ∧ lexT xs ys = lexT (xs.drop k) (ys.drop k) ∧ Below w.heap.size w wr) (fun i _ => xs.length - (intOf i).toNat)
  case atStart => exact ⟨0, by omega, by omega, rfl, rfl, Below.refl _ _⟩
  case round =>
    obtain ⟨k, hk, hk', rfl, hG, hb⟩ := hrel
    have HG := hidS hG
    clear hG
    by_cases hkl : k < xs.length
    · obtain ⟨x, hxk⟩ : ∃ x, xs[k]? = some x := ⟨xs[k], by simp [hkl]⟩
      obtain ⟨b, o, rfl, hq, d0⟩ := (hv.below hb).get hxk
      by_cases hkl' : k < ys.length
      · obtain ⟨y, hyk⟩ : ∃ y, ys[k]? = some y := ⟨ys[k], by simp [hkl']⟩
        obtain ⟨b', o', rfl, hq', d1⟩ := (hv'.below hb).get hyk
        have HL := hidS (lexT_drop hxk hyk)
        have z0 : (k : Int) < (xs.length : Int) := by omega
        have z1 : (k : Int) < (ys.length : Int) := by omega
        by_cases h1 : x < y
        · have HE := hidS (show lexT xs ys = -1 from by rw [HG.out, HL.out, if_pos h1])
          go_wp2
          go_region
          go_wp2
          go_ret
          exact ⟨retIs HE.out, hb.drew⟩
        · by_cases h2 : y < x
          · have HE := hidS (show lexT xs ys = 1 from by rw [HG.out, HL.out, if_neg h1, if_pos h2])
            go_wp2
            go_region
            go_wp2
            go_region
            go_wp2
            go_ret
            exact ⟨retIs HE.out, hb.drew.drew⟩
          · have HE := hidS (show lexT xs ys = lexT (xs.drop (k + 1)) (ys.drop (k + 1)) from by rw [HG.out, HL.out, if_neg h1, if_neg h2])
            go_wp2
            go_region
            go_wp2
            go_region
            go_wp2
            go_roundw
            case rel => exact ⟨k + 1, by omega, by omega, by go_num, HE.out, hb.drew.drew⟩
            case measure => simp [intOf]; omega
      · have HE := hidS (lexT_end hk hk' (.inr (by omega)))
        have z1 : ¬ (k : Int) < (ys.length : Int) := by omega
        have hw : IntKind.i64.wrap ((xs.length : Int) - (ys.length : Int)) = (xs.length : Int) - (ys.length : Int) := by rw [IntKind.wrap_i64]; omega
        go_wp2
        go_ret
        exact ⟨retIs (by rw [HG.out, HE.out]), hb⟩
    · have HE := hidS (lexT_end hk hk' (.inl (by omega)))
      have z1 : ¬ (k : Int) < (xs.length : Int) := by omega
      have hw : IntKind.i64.wrap ((xs.length : Int) - (ys.length : Int)) = (xs.length : Int) - (ys.length : Int) := by rw [IntKind.wrap_i64]; omega
      go_wp2
      go_ret
      exact ⟨retIs (by rw [HG.out, HE.out]), hb⟩

set_option maxHeartbeats 800000 in
theorem l5There_any (rs : List Ru) (a : Option Addr) (c : Nat) (x : In) (at' : Option Addr) (ct : Nat) (w : World) (hl : rs.length ≤ 1048576) (ht : x.tags.length ≤ 1048576) :
    Calls Tryz.prog 18 #[.slice a rs.length c, .agg #[.int .i64 x.rule, .slice at' x.tags.length ct]] w fun e w' => e = .returned (.bool (placedI rs x)) ∧ Below w.heap.size w w' := by
  have HP : Hid (placedI rs x = (decide (0 ≤ x.rule) && (decide (x.rule < (rs.length : Int)) && decide (x.tags.length ≤ 3)))) := rfl
  have B0 : ∀ o, Below w.heap.size w (w.alloc o) := fun o => (Below.refl _ _).alloc (Nat.le_refl _) _
  by_cases h1 : 0 ≤ x.rule <;> by_cases h2 : x.rule < (rs.length : Int) <;> by_cases h3 : x.tags.length ≤ 3
  all_goals
    first
    | (exfalso; omega; done)
    | (go_enter Tryz.func18, Tryz.ntmps18
       go_wp2
       go_ret
       exact ⟨ret_bool (by rw [HP.out]; first | (simp [h1, h2, h3]; done) | (simp [h1, h2, h3]; omega)), B0 _⟩)

set_option maxHeartbeats 800000 in
theorem l2Checked_any (rs : List Ru) (a : Option Addr) (c : Nat) {q : Option Nat} (w : World) (hv : RusAt q w a rs) (hc : rs.length ≤ c) (hle : ListLe Ru.le 1048576 rs) (ho : ∀ x ∈ rs, OpsOk x.exprs) :
    Calls Tryz.prog 17 #[.slice a rs.length c] w fun e w' => e = .returned (.bool (decide ((chk rs).1 = 0))) ∧ Below w.heap.size w w' := by
  have HC := hidS (sCheckRules_any a c rs q w hv hc hle ho)
  unfold ckV at HC
  by_cases hp : (chk rs).1 = 0
  · have hz := chk_zero hp
    rw [hz] at HC ⊢
    go_enter Tryz.func17, Tryz.ntmps17
    go_wp2_with (go_at_call 41; with_reducible refine HC.out.mono ?_; rintro e w1 ⟨rfl, hb1⟩)
    go_ret
    exact ⟨rfl, hb1⟩
  · generalize (chk rs).1 = p0 at HC hp ⊢
    generalize (chk rs).2.1 = p1 at HC
    generalize (chk rs).2.2 = p2 at HC
    go_enter Tryz.func17, Tryz.ntmps17
    go_wp2_with (go_at_call 41; with_reducible refine HC.out.mono ?_; rintro e w1 ⟨rfl, hb1⟩)
    go_ret
    exact ⟨ret_bool (by simp [hp]), hb1⟩
end Go.Proofs.YtofflfaineodmaaGreat

namespace Go.Proofs.YtofflfaineodmaaGreat
open Go.RowKit
attribute [local go_sem ↓] Go.wp_at_zero Go.wp_at_succ

theorem placed_at {rs : List Ru} {x : In} (h : placedI rs x = true) : ∃ (i : Nat) (r : Ru), x.rule = (i : Int) ∧ rs[i]? = some r ∧ salOf rs x = r.sal ∧ i < rs.length ∧ x.tags.length ≤ 3 := by
  simp only [placedI, Bool.and_eq_true, decide_eq_true_eq] at h
  obtain ⟨h1, h2, h3⟩ := h
  have hlt : x.rule.toNat < rs.length := by omega
  refine ⟨x.rule.toNat, rs[x.rule.toNat], by omega, List.getElem?_eq_getElem hlt, ?_, hlt, h3⟩
  unfold salOf
  rw [List.getElem?_eq_getElem hlt]
  rfl
theorem befS_1 {rs : List Ru} {a b : In} (h : salOf rs a ≠ salOf rs b) : befS rs a b = decide (salOf rs b < salOf rs a) := by unfold befS; rw [if_pos h]
theorem befS_2 {rs : List Ru} {a b : In} (h : salOf rs a = salOf rs b) (h2 : lexT (recA a.tags) (recA b.tags) ≠ 0) : befS rs a b = decide (0 < lexT (recA a.tags) (recA b.tags)) := by unfold befS; rw [if_neg (by simp [h]), if_pos h2]
theorem befS_3 {rs : List Ru} {a b : In} (h : salOf rs a = salOf rs b) (h2 : lexT (recA a.tags) (recA b.tags) = 0) (h3 : a.rule ≠ b.rule) : befS rs a b = decide (a.rule < b.rule) := by unfold befS; rw [if_neg (by simp [h]), if_neg (by simp [h2]), if_pos h3]
theorem befS_4 {rs : List Ru} {a b : In} (h : salOf rs a = salOf rs b) (h2 : lexT (recA a.tags) (recA b.tags) = 0) (h3 : a.rule = b.rule) : befS rs a b = decide (lexT a.tags b.tags < 0) := by unfold befS; rw [if_neg (by simp [h]), if_neg (by simp [h2]), if_neg (by simp [h3])]

set_option maxRecDepth 100000 in
set_option maxHeartbeats 3200000 in
theorem l5Before_any (rs : List Ru) (a : Option Addr) (c : Nat) (x y : In) (ax ay : Option Addr) (cx cy : Nat) (w : World) {q q1 q2 : Option Nat} (hv : RusAt q w a rs) (hx : IntsAt q1 w ax x.tags) (hy : IntsAt q2 w ay y.tags) (hpx : placedI rs x = true) (hpy : placedI rs y = true) :
    Calls Tryz.prog 20 #[.slice a rs.length c, .agg #[.int .i64 x.rule, .slice ax x.tags.length cx], .agg #[.int .i64 y.rule, .slice ay y.tags.length cy]] w fun e w' => e = .returned (.bool (befS rs x y)) ∧ Below w.heap.size w w' := by
  obtain ⟨i, r, hi, hr, hsx, hil, hx3⟩ := placed_at hpx
  obtain ⟨j, s, hj, hs, hsy, hjl, hy3⟩ := placed_at hpy
  have E1 := hidS (befS_1 (rs := rs) (a := x) (b := y))
  have E2 := hidS (befS_2 (rs := rs) (a := x) (b := y))
  have E3 := hidS (befS_3 (rs := rs) (a := x) (b := y))
  have E4 := hidS (befS_4 (rs := rs) (a := x) (b := y))
  rw [hsx, hsy] at E1 E2 E3 E4
  rw [hi, hj] at E3 E4 ⊢
  obtain ⟨br, orr, _, _, _, _, _, _, rfl, _, _, dx, _⟩ := hv.get hr
  obtain ⟨br', orr', _, _, _, _, _, _, e, _, _, dy, _⟩ := hv.get hs
  simp only [Option.some.injEq, Addr.mk.injEq, and_true] at e
  obtain ⟨rfl, rfl⟩ := e
  have B2 : ∀ o o', Below w.heap.size w ((w.alloc o).alloc o') := fun o o' => ((Below.refl _ _).alloc (Nat.le_refl _) _).alloc (by simp) _
  have DX := hidS (fun o o' => cell_below (B2 o o') dx)
  have DY := hidS (fun o o' => cell_below (B2 o o') dy)
  have hlr := World.block_lt_of_cell? w ⟨br, _, none⟩ dx
  have hii : (i : Int) < (rs.length : Int) := by omega
  have hjj : (j : Int) < (rs.length : Int) := by omega
  have HRX := hidS (fun o o' => sRec_any ax cx x.tags (((w.alloc o).alloc o').drew) (hx.below (B2 o o').drew) (by omega))
  have HRY := hidS (fun w1 (h1 : Below w.heap.size w w1) => sRec_any ay cy y.tags w1 (hy.below h1) (by omega))
  have HTG := hidS (fun w1 a1 c1 a2 c2 (h1 : IntsAt none w1 a1 (recA x.tags)) (h2 : IntsAt none w1 a2 (recA y.tags)) => l5Tags_any a1 a2 c1 c2 (recA x.tags) (recA y.tags) w1 h1 h2 (by have := recA_len x.tags; omega) (by have := recA_len y.tags; omega))
  have HTT := hidS (fun w1 (h1 : Below w.heap.size w w1) => l5Tags_any ax ay cx cy x.tags y.tags w1 (hx.below h1) (hy.below h1) (by omega) (by omega))
  generalize hR : befS rs x y = R at *
  generalize lexT (recA x.tags) (recA y.tags) = t1 at *
  generalize lexT x.tags y.tags = t2 at *
  have HB2 := hidS B2
  have d1 : ∀ o o', ((w.alloc o).alloc o').cell? ⟨br, orr + i * 5 + 1, none⟩ = some (.int .i64 r.sal) := fun o o' => DX.out o o'
  have d2 : ∀ o o', ((w.alloc o).alloc o').cell? ⟨br, orr + j * 5 + 1, none⟩ = some (.int .i64 s.sal) := fun o o' => DY.out o o'
  clear hR hv hx hy hr hs hsx hsy hi hj dx dy DX DY B2 hpx hpy
  by_cases h1 : r.sal = s.sal
  · have HE1 := hidS h1
    rw [h1] at d1
    clear h1
    go_enter Tryz.func20, Tryz.ntmps20
    go_wp2_with fail
    go_region_held3 (fun w' => w'.cell? ⟨w.heap.size, 0, none⟩ = some (.int .i64 (i : Int)) ∧ w'.cell? ⟨w.heap.size, 1, none⟩ = some (.slice ax x.tags.length cx) ∧ w'.cell? ⟨w.heap.size + 1, 0, none⟩ = some (.int .i64 (j : Int)) ∧ w'.cell? ⟨w.heap.size + 1, 1, none⟩ = some (.slice ay y.tags.length cy)) (first | (go_split_ands; (refine ⟨?_, ?_, ?_, ?_⟩ <;> first | with_reducible assumption | (simp [*]; done) | with_reducible exact cell_below hb1 (by assumption) | with_reducible exact cell_below hb2 (by assumption) | with_reducible exact cell_below hb3 (by assumption)); done) | fail)
      (first
        | (go_at_call 43; with_reducible refine (HRX.out _ _).mono ?_; rintro e w1 ⟨⟨a1, c1, rfl, o1⟩, hb1⟩; have hB1 : Below w.heap.size w w1 := (HB2.out _ _).drew.trans (hb1.mono (by simp; omega)))
        | (go_at_call 43; with_reducible refine (HRY.out w1 hB1).mono ?_; rintro e w2 ⟨⟨a2, c2, rfl, o2⟩, hb2⟩; have o1' := owns_of_block o1 (fun g hg => hb2.block g (o1.lt g hg).2))
        | (go_at_call 42; with_reducible refine (HTG.out w2 a1 c1 a2 c2 (IntsAt.owns o1') (IntsAt.owns o2)).mono ?_; rintro e w3 ⟨rfl, hb3⟩)
        | fail)
    rename_i hHld
    obtain ⟨k0, k1, k2, k3⟩ := hHld
    have hB3 : Below w.heap.size w w3 := (hB1.trans (hb2.mono hB1.size)).trans (hb3.mono (by have := hB1.size; have := hb2.size; omega))
    have HB3 := hidS hB3
    have HT3 := hidS (HTT.out w3 hB3)
    clear HRX HRY HTG HTT o1 o1' o2 hb1 hb2 hb3 hB1 hB3 d1 d2
    by_cases h2 : t1 = 0
    · subst h2
      by_cases h3 : i = j
      · subst h3
        have HE := hidS (E4.out HE1.out rfl rfl)
        clear E1 E2 E3 E4
        go_wp2_with (go_at_call 42; with_reducible refine HT3.out.mono ?_; rintro e w4 ⟨rfl, hb4⟩)
        go_ret
        exact ⟨ret_bool HE.out.symm, HB3.out.trans (hb4.mono HB3.out.size)⟩
      · have HE := hidS (E3.out HE1.out rfl (by omega))
        clear E1 E2 E3 E4
        have h3' : ¬ (i : Int) = (j : Int) := by omega
        go_wp2_with fail
        go_ret
        exact ⟨ret_bool (by rw [HE.out]; first | rfl | simp), HB3.out⟩
    · have HE := hidS (E2.out HE1.out h2)
      clear E1 E2 E3 E4
      go_wp2_with fail
      go_ret
      exact ⟨ret_bool HE.out.symm, HB3.out⟩
  · have HE := hidS (E1.out h1)
    clear E1 E2 E3 E4
    have h1' : (r.sal == s.sal) = false := by simpa using h1
    go_enter Tryz.func20, Tryz.ntmps20
    go_wp2_with fail
    go_ret
    exact ⟨ret_bool HE.out.symm, HB2.out _ _⟩
end Go.Proofs.YtofflfaineodmaaGreat
