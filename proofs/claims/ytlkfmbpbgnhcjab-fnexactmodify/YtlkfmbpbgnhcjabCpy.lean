/-
  OUR OWN TEXT. The copies that the program and the model make of slots and facts.
-/
import Derived.Test.YtlkfmbpbgnhcjabOfs
import Derived.Deep.RegionHeld3
import Derived.Deep.DrawnRows
import Derived.Maps.RangeWalk
namespace Go.Proofs.Ytlkfmbpbgnhcjab
open Go.RowKit
attribute [local go_sem ↓] Go.wp_at_zero Go.wp_at_succ

theorem hidden' {p : Prop} (h : p) : Hid p := h
theorem below_new {w w' : World} (h : w.grownBy w' none) : Below w.heap.size w w' :=
  (Below.refl _ _).grown h (Nat.le_refl _) (fun k hk => by cases hk)
theorem owns_set {w : World} {base : Nat} {e : TypeId} {size : Nat} {v : Value} {n : Nat} {xs : List Value} (h : w.ownsRow base e size v n xs) {p : Addr} (hp : p.block < base) (u : Value) : (w.setCell p u).ownsRow base e size v n xs :=
  owns_of_block h (fun g hg => Below.heap_setCell _ _ _ _ (by have := (h.lt g hg).1; omega))

/-- Slots of one's own. -/
def OwnSl (w : World) (base : Nat) (x : Value) (vs : List V) : Prop := (∃ a c, x = .slice a vs.length c) ∧ w.ownsRow base 90 3 x vs.length (vs.flatMap V.cells)

set_option maxHeartbeats 800000 in
theorem l1Slots_any (a : Option Addr) (c : Nat) (vs : List V) (w : World) (hv : ValsAt w a vs) (hl : vs.length ≤ 1048576) :
    Calls Try.prog 90 #[.slice a vs.length c] w fun e w' =>
      (∃ a' c', e = .returned (.slice a' vs.length c') ∧ OwnSl w' w.heap.size (.slice a' vs.length c') vs) ∧ Below w.heap.size w w' := by
  go_enter Try.func90, Try.ntmps90
  go_wp2_with (at_builtin; refine wpList_append_any (by rfl) (.tmp 4) (.tmp 5) 29 (by rfl) w.heap.size 90 _ 3 32 Try.underlying29 infoV (by rfl) (by omega) _ 0 [] (by rfl) (World.ownsRow_nil _ _ _ _) a vs.length c (by rfl) (vs.flatMap V.cells) (flat_len _) (fun e => ValsAt.nil (e ▸ hv)) (fun ad e => ValsAt.flat (e ▸ hv)) (flat_one _) (by unfold maxLen; omega) (by omega) (Nat.le_refl _) ?_; intro a' c' w1 ho hg hl1)
  have ho1 := ho.out
  simp only [Nat.zero_add, List.nil_append] at ho1
  go_ret
  exact ⟨⟨a', c', by simp, ⟨a', c', rfl⟩, ho1⟩, below_new hg.out⟩

set_option maxHeartbeats 800000 in
theorem factCopied_any (f : F) (a : Option Addr) (c : Nat) (w : World) (hv : ValsAt w a f.slots) (hl : f.slots.length ≤ 1048576) :
    Calls Try.prog 140 #[.agg #[.int .i64 f.tag, .string f.cls, .slice a f.slots.length c]] w fun e w' =>
      (∃ a' c', e = .returned (.agg #[.int .i64 f.tag, .string f.cls, .slice a' f.slots.length c']) ∧ OwnSl w' w.heap.size (.slice a' f.slots.length c') f.slots) ∧ Below w.heap.size w w' := by
  have hv1 : ∀ o o', ValsAt ((w.alloc o).alloc o') a f.slots := fun o o' => hv.below (((Below.refl _ _).alloc (Nat.le_refl _) _).alloc (by simp) _)
  have hz2 : w.heap.size < w.heap.size + 1 + 1 := by omega
  go_enter Try.func140, Try.ntmps140
  go_wp2_with (at_builtin; refine wpList_append_any (by rfl) _ (.tmp 4) 29 (by rfl) (w.heap.size + 1 + 1) 90 _ 3 32 Try.underlying29 infoV (by rfl) (by omega) _ 0 [] (by rfl) (World.ownsRow_nil _ _ _ _) a f.slots.length c (by rfl) (f.slots.flatMap V.cells) (flat_len _) (fun e => ValsAt.nil (e ▸ hv)) (fun ad e => ValsAt.flat (e ▸ hv1 _ _)) (flat_one _) (by unfold maxLen; omega) (by omega) (by simp) ?_; intro a' c' w1 ho hg hl1; have hb1 := below_new hg.out; obtain ⟨hc, hf⟩ := bcell hb1)
  have ho1 := ho.out
  simp only [Nat.zero_add, List.nil_append] at ho1
  refine bodyPost_ret (v := .agg #[.int .i64 f.tag, .string f.cls, .slice a' f.slots.length c']) (by simp [results, Try.results140, go_sem, hc]) rfl ⟨⟨a', c', rfl, ⟨a', c', rfl⟩, ?_⟩, ?_⟩
  · exact owns_base (owns_set (owns_set (owns_set (owns_set ho1 (by simp; omega) _) (by simp) _) (by simp) _) (by simp) _) (by omega)
  · have hB : Below w.heap.size w w1 := (((Below.refl _ _).alloc (Nat.le_refl _) _).alloc (by simp) _).trans (hb1.mono (by simp; omega))
    exact (((hB.setCell (by simp) _).setCell (by simp) _).setCell (by simp) _).setCell (by simp) _

theorem news_alloc (w : World) (L : List Value) (t : TypeId) (ad : Addr) (e : some (⟨w.heap.size, 0, none⟩ : Addr) = some ad) (j : Nat) (u : Value) (h : L[j]? = some u) : (w.alloc (.cells L.toArray t)).cell? (ad.add j) = some u := by
  cases e
  rw [Addr.add_mid, Nat.zero_add]
  have hb := heap_alloc_new w (.cells L.toArray t)
  simp only [World.cell?, hb]
  simp [h]
theorem fcells_one (f : F) (a : Option Addr) (n c : Nat) : ∀ u ∈ fcells f (.slice a n c), u.oneCell' = true := by
  intro u hu
  simp [fcells] at hu
  rcases hu with rfl | rfl | rfl <;> rfl

theorem apart_new {w : World} {base B : Nat} {v x : Value} {e e' : TypeId} {s s' n n' : Nat} {xs ys : List Value} {w' : World} (h : w.ownsRow base e s v n xs) (hx : w'.ownsRow B e' s' x n' ys) (hB : w.heap.size ≤ B) : Apart v x := fun g hg hgx => by
  have h1 := (h.lt g hg).2
  have h2 := (hx.lt g hgx).1
  omega

set_option maxHeartbeats 800000 in
theorem copyFacts_any (a : Option Addr) (c : Nat) (fs : List F) (w : World) (hv : FactsAt w a fs) (hl : fs.length ≤ 1048576) (hs : ∀ f ∈ fs, f.slots.length ≤ 1048576) :
    Calls Try.prog 139 #[.slice a fs.length c] w fun e w' =>
      (∃ a' c' xs, e = .returned (.slice a' fs.length c') ∧ OFs w' w.heap.size (.slice a' fs.length c') fs.length fs xs) ∧ Below w.heap.size w w' := by
  go_enter Try.func139, Try.ntmps139
  go_wp2
  go_loopw [3, 8] (fun v i wr => ∃ (k : Nat) (a' : Option Addr) (c' : Nat) (xs : List Value), k ≤ fs.length ∧ i = .int .i64 k ∧ v = .slice a' k c' ∧ OFs wr w.heap.size (.slice a' k c') k (fs.take k) xs ∧ Below w.heap.size w wr) (fun _ i _ => fs.length - (intOf i).toNat)
  case atStart => exact ⟨0, none, 0, [], by omega, rfl, rfl, OFs.nil _ _, Below.refl _ _⟩
  case round =>
    obtain ⟨k, a', c', xs, hk, rfl, rfl, ho, hb⟩ := hrel
    by_cases hkl : k < fs.length
    · obtain ⟨f, hfk⟩ : ∃ f, fs[k]? = some f := ⟨fs[k], by simp [hkl]⟩
      obtain ⟨b, o, rfl, c0, c1, s, cs, c2, hsl⟩ := hv.below hb k f hfk
      have hsf := hs f (List.mem_of_getElem? hfk)
      have B1 : ∀ o, Below wr.heap.size wr (wr.alloc o) := fun o => (Below.refl _ _).alloc (Nat.le_refl _) _
      have HO := hidden' ho
      clear ho
      go_wp2_with (first | (go_at_call 140; refine (factCopied_any f s cs _ (hsl.below (B1 _)) hsf).mono ?_; rintro e w1 ⟨⟨a1, c1', rfl, hx1⟩, hb1⟩; have ho1 := hidden' ((HO.out.below (B1 _)).below hb1); have HX := hidden' hx1; clear hx1) | (at_builtin; refine wpList_append_any (by rfl) (.tmp 12) (.tmp 15) 24 (by rfl) w.heap.size 81 _ 3 48 Try.underlying24 infoF (by rfl) (by omega) _ k _ (by rfl) (ho1.out.own.alloc _) (some ⟨w1.heap.size, 0, none⟩) 1 1 (by rfl) (fcells f (.slice a1 f.slots.length c1')) (by rfl) (fun e => by cases e) (by exact news_alloc _ _ _) (fcells_one _ _ _ _) (by unfold maxLen; omega) (by omega) (by have h1 := hb.size; have h2 := hb1.size; simp at h2 ⊢; omega) ?_; intro a2 c2' w2 ho2 hg2 hl2))
      have hX := HX.out
      have hW1 : Below w.heap.size w w1 := hb.trans (((B1 _).trans (hb1.mono (by simp))).mono hb.size)
      have hsz : w.heap.size ≤ w1.heap.size := hW1.size
      have hS := (ho1.out.below ((Below.refl _ _).alloc (Nat.le_refl _) _)).snoc ⟨hX.1, (owns_base hX.2 (by have := hb.size; simp; omega)).alloc _⟩ (apart_new HO.out.own hX.2 (by simp)) (fun y hy => by
        obtain ⟨f', _, hf'⟩ := HO.out.each' hy
        exact apart_new hf' hX.2 (by simp)) ho2.out hg2.out hl2.out
      go_roundw
      case rel =>
        rw [← take_succ' fs k f hfk] at hS
        exact ⟨k + 1, a2, c2', _, by omega, by go_num, rfl, hS, ((hW1.alloc hsz _).grown hg2.out (by simp; omega) (fun j hj => (ho1.out.own.lt j hj).1))⟩
      case measure => simp [intOf]; omega
    · go_wp2
      go_ret
      obtain rfl : k = fs.length := by omega
      rw [List.take_of_length_le (Nat.le_refl _)] at ho
      exact ⟨⟨a', c', xs, rfl, ho⟩, hb⟩

set_option maxRecDepth 100000 in
set_option maxHeartbeats 800000 in
theorem l1Facts_any (a : Option Addr) (c : Nat) (fs : List F) (w : World) (hv : FactsAt w a fs) (hl : fs.length ≤ 1048576) (hs : ∀ f ∈ fs, f.slots.length ≤ 1048576) :
    Calls Try.prog 89 #[.slice a fs.length c] w fun e w' =>
      (∃ a' c' xs, e = .returned (.slice a' fs.length c') ∧ OFs w' w.heap.size (.slice a' fs.length c') fs.length fs xs) ∧ Below w.heap.size w w' := by
  go_enter Try.func89, Try.ntmps89
  go_wp2
  go_loopw [3, 8] (fun v i wr => ∃ (k : Nat) (a' : Option Addr) (c' : Nat) (xs : List Value), k ≤ fs.length ∧ i = .int .i64 k ∧ v = .slice a' k c' ∧ OFs wr w.heap.size (.slice a' k c') k (fs.take k) xs ∧ Below w.heap.size w wr) (fun _ i _ => fs.length - (intOf i).toNat)
  case atStart => exact ⟨0, none, 0, [], by omega, rfl, rfl, OFs.nil _ _, Below.refl _ _⟩
  case round =>
    obtain ⟨k, a', c', xs, hk, rfl, rfl, ho, hb⟩ := hrel
    by_cases hkl : k < fs.length
    · obtain ⟨f, hfk⟩ : ∃ f, fs[k]? = some f := ⟨fs[k], by simp [hkl]⟩
      obtain ⟨b, o, rfl, c0, c1, s, cs, c2, hsl⟩ := hv.below hb k f hfk
      have hsf := hs f (List.mem_of_getElem? hfk)
      have B1 : ∀ o, Below wr.heap.size wr (wr.alloc o) := fun o => (Below.refl _ _).alloc (Nat.le_refl _) _
      have HO := hidden' ho
      clear ho
      go_wp2
      go_region_held3 (fun w' => w'.cell? ⟨wr.heap.size, 0, none⟩ = some (.int .i64 f.tag) ∧ w'.cell? ⟨wr.heap.size, 1, none⟩ = some (.string f.cls) ∧ w'.cell? ⟨wr.heap.size, 2, none⟩ = some (.slice s f.slots.length cs)) ((go_split_ands; refine ⟨?_, ?_, ?_⟩ <;> first | (simp [*, go_sem]; done) | exact cell_below hb1 (by simp [*, go_sem]) | exact cell_below ((Below.refl _ _).alloc (Nat.le_refl _) _) (cell_below hb1 (by simp [*, go_sem])) | exact hg2.out.cell (cell_below ((Below.refl _ _).alloc (Nat.le_refl _) _) (cell_below hb1 (by simp [*, go_sem]))) (fun e => absurd (HO.out.own.lt _ e.symm).2 (Nat.lt_irrefl _))))
        (first | (go_at_call 90; refine (l1Slots_any s cs f.slots _ (hsl.below ?_) hsf).mono ?_; exact (B1 _).drew; rintro e w1 ⟨⟨a1, c1', rfl, hx1⟩, hb1⟩; have ho1 := hidden' ((HO.out.below (B1 _).drew).below hb1); have HX := hidden' hx1; clear hx1) | (refine step_append_any (by rfl) (.tmp 12) (.tmp 21) 24 (by rfl) w.heap.size 81 _ 3 48 Try.underlying24 infoF (by rfl) (by omega) _ k _ (by rfl) (ho1.out.own.alloc _) (some ⟨w1.heap.size, 0, none⟩) 1 1 (by rfl) (fcells f (.slice a1 f.slots.length c1')) (by rfl) (fun e => by cases e) (by exact news_alloc _ _ _) (fcells_one _ _ _ _) (by unfold maxLen; omega) (by omega) (by have h1 := hb.size; have h2 := hb1.size; simp at h2 ⊢; omega) ?_; intro a2 c2' w2 ho2 hg2 hl2))
      have hX := HX.out
      have hW1 : Below w.heap.size w w1 := hb.trans (((B1 _).drew.trans (hb1.mono (by simp))).mono hb.size)
      have hsz : w.heap.size ≤ w1.heap.size := hW1.size
      have hS := (ho1.out.below ((Below.refl _ _).alloc (Nat.le_refl _) _)).snoc ⟨hX.1, (owns_base hX.2 (by have := hb.size; simp; omega)).alloc _⟩ (apart_new HO.out.own hX.2 (by simp)) (fun y hy => by
        obtain ⟨f', _, hf'⟩ := HO.out.each' hy
        exact apart_new hf' hX.2 (by simp)) ho2.out hg2.out hl2.out
      go_wp2
      go_roundw
      case rel =>
        rw [← take_succ' fs k f hfk] at hS
        exact ⟨k + 1, a2, c2', _, by omega, by go_num, rfl, hS, ((hW1.alloc hsz _).grown hg2.out (by simp; omega) (fun j hj => (ho1.out.own.lt j hj).1))⟩
      case measure => simp [intOf]; omega
    · go_wp2
      go_ret
      obtain rfl : k = fs.length := by omega
      rw [List.take_of_length_le (Nat.le_refl _)] at ho
      exact ⟨⟨a', c', xs, rfl, ho⟩, hb⟩
end Go.Proofs.Ytlkfmbpbgnhcjab
