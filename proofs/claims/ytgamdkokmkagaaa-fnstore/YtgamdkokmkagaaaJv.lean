/-
  OUR OWN TEXT. Mf, Hf, LawR, one behind the other.
-/
import Derived.Test.YtgamdkokmkagaaaHdm
import Derived.Test.YtgamdkokmkagaaaJu
import Derived.Test.YtgamdkokmkagaaaJk
import Derived.Test.YtgamdkokmkagaaaJq
namespace Go.Proofs.Ytgamdkokmkagaaa
open Go.RowKit
attribute [local go_sem ↓] Go.wp_at_zero Go.wp_at_succ

theorem OFs.marked {w w2 : World} {base n : Nat} {v x : Value} {A B : List F} {f f' : F} {X Y : List Value} (h : OFs w base v n (A ++ f :: B) (X ++ x :: Y)) (hA : X.length = A.length) (hlen : f'.slots.length = f.slots.length)
    (hv : w2.ownsRow base 117 3 v n (frows (A ++ f' :: B) (X ++ x :: Y))) (hx : w2.ownsRow base 125 3 x f'.slots.length (f'.slots.flatMap V.cells)) (hm : Mk (fun g => v.ownBlock = some g ∨ x.ownBlock = some g) w w2) : OFs w2 base v n (A ++ f' :: B) (X ++ x :: Y) := by
  have hp := List.pairwise_append.1 h.pair
  have hother : ∀ y : Value, y ∈ X ∨ y ∈ Y → ∀ g, y.ownBlock = some g → w2.heap[g]? = w.heap[g]? := by
    intro y hy g hg
    have hym : y ∈ X ++ x :: Y := by rcases hy with hy | hy <;> simp [hy]
    refine hm.block g (h.range (.inr ⟨y, hym, hg⟩)).2 ?_
    rintro (e | e)
    · exact h.apart y hym g e hg
    · rcases hy with hy | hy
      · exact hp.2.2 y hy x (by simp) g hg e
      · exact (List.pairwise_cons.1 hp.2.1).1 y hy g e hg
  refine ⟨by rw [h.num]; simp, by rw [h.len]; simp, hv, ?_, h.apart, h.pair⟩
  intro i q y hq hy
  rcases Nat.lt_trichotomy i A.length with hi | hi | hi
  · rw [List.getElem?_append_left hi] at hq
    rw [List.getElem?_append_left (by omega)] at hy
    obtain ⟨h1, h2⟩ := h.each i q y (by rw [List.getElem?_append_left hi]; exact hq) (by rw [List.getElem?_append_left (by omega)]; exact hy)
    exact ⟨h1, owns_of_block h2 (hother y (.inl (List.mem_of_getElem? hy)))⟩
  · subst hi
    rw [List.getElem?_append_right (Nat.le_refl _)] at hq
    rw [List.getElem?_append_right (by omega), hA] at hy
    simp at hq hy
    subst hq
    subst hy
    obtain ⟨⟨a, c, e⟩, _⟩ := h.each A.length f x (by simp) (by rw [List.getElem?_append_right (by omega), hA]; simp)
    exact ⟨⟨a, c, by rw [e, hlen]⟩, hx⟩
  · have e1 : ∀ u : F, (A ++ u :: B)[i]? = B[i - A.length - 1]? := fun u => by
      rw [List.getElem?_append_right (by omega), List.getElem?_cons, if_neg (by omega)]
    have e2 : (X ++ x :: Y)[i]? = Y[i - A.length - 1]? := by
      rw [List.getElem?_append_right (by omega), List.getElem?_cons, if_neg (by omega), hA]
    rw [e1] at hq
    rw [e2] at hy
    obtain ⟨h1, h2⟩ := h.each i q y (by rw [e1]; exact hq) (by rw [e2]; exact hy)
    exact ⟨h1, owns_of_block h2 (hother y (.inr (List.mem_of_getElem? hy)))⟩

theorem frows_mid (A B : List F) (X Y : List Value) (f : F) (x : Value) (h : X.length = A.length) : frows (A ++ f :: B) (X ++ x :: Y) = frows A X ++ ([.int .i64 f.tag, .string f.cls, x] ++ frows B Y) := by
  rw [frows_append A (f :: B) X (x :: Y) h]
  rfl

set_option maxRecDepth 100000 in
set_option maxHeartbeats 1600000 in
theorem markFactS_any (a : Option Addr) (c : Nat) (fs : List F) (xs : List Value) (base : Nat) (k0 : Int) (w : World) (ho : OFs w base (.slice a fs.length c) fs.length fs xs) (hl : fs.length ≤ 1048576) (hs : ∀ f ∈ fs, f.slots.length ≤ 1048576) (hk : 0 < k0) (hk' : kEnd k0 fs ≤ 100000000) :
    Calls Try.prog 59 #[.slice a fs.length c, .int .i64 k0] w fun e w' =>
      e = .returned (.int .i64 (kEnd k0 fs)) ∧ OFs w' base (.slice a fs.length c) fs.length (mkFs k0 fs) xs ∧ Mk (InBlk (.slice a fs.length c) xs) w w' := by
  go_enter Try.func59, Try.ntmps59
  go_wp2
  go_loopw [1, 5] (fun kv i wr => ∃ (j : Nat), j ≤ fs.length ∧ i = .int .i64 j ∧ kv = .int .i64 (kEnd k0 (fs.take j)) ∧ OFs wr base (.slice a fs.length c) fs.length (mkFs k0 (fs.take j) ++ fs.drop j) xs ∧ Mk (InBlk (.slice a fs.length c) xs) w wr) (fun _ i _ => fs.length - (intOf i).toNat)
  case atStart => exact ⟨0, by omega, rfl, rfl, by simpa [mkFs] using ho, Mk.refl _ _⟩
  case round =>
    obtain ⟨j, hj, rfl, rfl, ho1, hm⟩ := hrel
    have HM := hidden' hm
    clear hm ho
    by_cases hjl : j < fs.length
    · obtain ⟨f, hfj⟩ : ∃ f, fs[j]? = some f := ⟨fs[j], by simp [hjl]⟩
      have hxl : xs.length = fs.length := by rw [ho1.len]; simp [mkFs_len]; omega
      obtain ⟨x, hxj⟩ : ∃ x, xs[j]? = some x := ⟨xs[j]'(by omega), by simp [show j < xs.length by omega]⟩
      have hd : fs.drop j = f :: fs.drop (j + 1) := drop_cons hfj
      have hxs : xs = xs.take j ++ x :: xs.drop (j + 1) := by
        have := List.take_append_drop j xs
        rw [drop_cons hxj] at this
        exact this.symm
      have hAl : (mkFs k0 (fs.take j)).length = j := by rw [mkFs_len]; simp; omega
      have hXl : (xs.take j).length = (mkFs k0 (fs.take j)).length := by rw [hAl]; simp; omega
      rw [hd, hxs] at ho1
      obtain ⟨⟨a', c', e'⟩, hox⟩ := ho1.each j f x (by rw [List.getElem?_append_right (by omega), hAl]; simp) (by rw [List.getElem?_append_right (by omega), hXl, hAl]; simp)
      have hxa := ho1.apart x (by simp)
      have hrow := ho1.own
      rw [frows_mid _ _ _ _ _ _ hXl] at hrow
      have hfl : (frows (mkFs k0 (fs.take j)) (xs.take j)).length = j * 3 := by rw [frows_len _ _ hXl, hAl]
      subst e'
      obtain ⟨g, rfl, hbg, c0, f0⟩ := owns_cell (j := j * 3) (x := .int .i64 f.tag) hrow (by rw [List.getElem?_append_right (by omega), hfl]; simp)
      obtain ⟨_, he1, _, c1, f1⟩ := owns_cell (j := j * 3 + 1) (x := .string f.cls) hrow (by rw [List.getElem?_append_right (by omega), hfl, show j * 3 + 1 - j * 3 = 1 by omega]; simp)
      obtain ⟨_, he2, _, c2, _⟩ := owns_cell (j := j * 3 + 2) (x := .slice a' f.slots.length c') hrow (by rw [List.getElem?_append_right (by omega), hfl, show j * 3 + 2 - j * 3 = 2 by omega]; simp)
      cases he1
      cases he2
      have hgl : g < wr.heap.size := World.block_lt_of_cell? wr ⟨g, _, none⟩ c0
      have hsf := hs f (List.mem_of_getElem? hfj)
      obtain ⟨K, hK⟩ : ∃ K, K = kEnd k0 (fs.take j) := ⟨_, rfl⟩
      have hKn : kEnd k0 (fs.take (j + 1)) = K + 2 + 3 * (f.slots.length : Int) := by rw [take_succ' fs j f hfj, kEnd_snoc, ← hK]; rfl
      have hMn : mkFs k0 (fs.take (j + 1)) = mkFs k0 (fs.take j) ++ [mkF K f] := by rw [take_succ' fs j f hfj, mkFs_snoc, ← hK]
      have hKpos : 0 < K := by rw [hK]; have := kEnd_ge (fs.take j) k0; omega
      have hKle : K + 2 + 3 * (f.slots.length : Int) ≤ 100000000 := by
        rw [← hKn]
        have h1 := kEnd_append (fs.drop (j + 1)) (fs.take (j + 1)) k0
        rw [List.take_append_drop] at h1
        have h2 := kEnd_ge (fs.drop (j + 1)) (kEnd k0 (fs.take (j + 1)))
        omega
      have hw1 : IntKind.i64.wrap (K + 1) = K + 1 := by rw [IntKind.wrap_i64]; omega
      have hw2 : IntKind.i64.wrap (K + 1 + 1) = K + 2 := by rw [IntKind.wrap_i64]; omega
      have HO := hidden' ho1
      have HX := hidden' hox
      have HR := hidden' hrow
      have HKn := hidden' hKn
      have HMn := hidden' hMn
      have HXS := hidden' hxs
      clear ho1 hox hrow hKn hMn hxs hd
      rw [← hK]
      have HFL := hidden' hfl
      have HXL := hidden' hXl
      clear hK hfl hAl hXl hxl hxj hfj
      go_wp2_with (go_at_call 77; refine (markText_any (K + 1) _ (by omega) (by omega)).mono ?_; rintro e w1 ⟨rfl, hb1⟩; obtain ⟨hc1, hf1⟩ := bcell hb1)
      have hne : ∀ g', (Value.slice a' f.slots.length c').ownBlock = some g' → g' ≠ g := fun g' hg' e => hxa g rfl (by rw [hg', e])
      have hox2 : (w1.setCell ⟨g, j * 3 + 1, none⟩ (.string (mText (K + 1)))).ownsRow base 125 3 (.slice a' f.slots.length c') f.slots.length (f.slots.flatMap V.cells) :=
        owns_of_block HX.out (fun g' hg' => (Below.heap_setCell _ _ _ _ (hne g' hg')).trans ((hb1.block g' (by simpa using (HX.out.lt g' hg').2)).trans (Below.heap_setCell _ _ _ _ (hne g' hg'))))
      refine (markValueS_any a' c' f.slots base (K + 2) _ hox2 hsf (by omega) (by omega)).mono ?_
      rintro e w2 ⟨rfl, ho2, hm2⟩
      have s1 := (HR.out.stored (j * 3) (.int .i64 K)).1
      have s2 := owns_of_block s1 (w' := w1) (fun g' hg' => hb1.block g' (by cases hg'; simpa using hgl))
      have s3 := (s2.stored (j * 3 + 1) (.string (mText (K + 1)))).1
      have hz1 : wr.heap.size ≤ w1.heap.size := by have := hb1.size; simpa using this
      have s4 := owns_of_block s3 (w' := w2) (fun g' hg' => hm2.block g' (by cases hg'; simp; omega) (fun e => hne g' e (by cases hg'; rfl)))
      have e4 : ((frows (mkFs k0 (fs.take j)) (xs.take j) ++ ([Value.int .i64 f.tag, Value.string f.cls, Value.slice a' f.slots.length c'] ++ frows (fs.drop (j + 1)) (xs.drop (j + 1)))).set (j * 3) (.int .i64 K)).set (j * 3 + 1) (.string (mText (K + 1))) = frows (mkFs k0 (fs.take j) ++ mkF K f :: fs.drop (j + 1)) (xs.take j ++ .slice a' f.slots.length c' :: xs.drop (j + 1)) := by
        rw [frows_mid _ _ _ _ _ _ HXL.out, ← HFL.out]
        simp [mkF]
      rw [e4] at s4
      have m0 := fun (u : World) (o : Nat) (y : Value) => Mk.set (S := fun g' => (Value.slice (some ⟨g, 0, none⟩) fs.length c).ownBlock = some g' ∨ (Value.slice a' f.slots.length c').ownBlock = some g') (w := u) (p := ⟨g, o, none⟩) (.inl rfl) y
      have m2 := (((m0 wr (j * 3) (.int .i64 K)).trans (Mk.of_below hb1)).trans (m0 w1 (j * 3 + 1) (.string (mText (K + 1))))).trans (hm2.mono (fun _ h => .inr h))
      have hS := HO.out.marked HXL.out (f' := mkF K f) (mkVs_len _ _) s4 (by show w2.ownsRow _ _ _ _ (mkVs (K + 2) f.slots.length).length _; rw [mkVs_len]; exact ho2) m2
      have hmem : ∀ g', (Value.slice (some ⟨g, 0, none⟩) fs.length c).ownBlock = some g' ∨ (Value.slice a' f.slots.length c').ownBlock = some g' → InBlk (.slice (some ⟨g, 0, none⟩) fs.length c) xs g' := by
        rintro g' (h | h)
        · exact .inl h
        · exact .inr ⟨_, by rw [HXS.out]; simp, h⟩
      have m3 := HM.out.trans (m2.mono hmem)
      rw [← HXS.out] at hS
      have e5 : mkFs k0 (fs.take j) ++ mkF K f :: fs.drop (j + 1) = mkFs k0 (fs.take (j + 1)) ++ fs.drop (j + 1) := by rw [HMn.out]; simp
      rw [e5] at hS
      clear m2 m0 e5 e4 s4 s3 s2 s1 hm2 ho2
      go_wp2_with fail
      go_roundw
      case rel => exact ⟨j + 1, by omega, by go_num, by rw [HKn.out], hS, m3⟩
      case measure => simp [intOf]; omega
    · go_wp2
      go_ret
      obtain rfl : j = fs.length := by omega
      rw [List.drop_eq_nil_of_le (Nat.le_refl _), List.append_nil, List.take_of_length_le (Nat.le_refl _)] at ho1
      rw [List.take_of_length_le (Nat.le_refl _)]
      exact ⟨rfl, ho1, HM.out⟩
end Go.Proofs.Ytgamdkokmkagaaa

namespace Go.Proofs.Ytgamdkokmkagaaa
open Go.RowKit
attribute [local go_sem ↓] Go.wp_at_zero Go.wp_at_succ

theorem mkFs_at {f : F} : ∀ {fs : List F} {k : Int} {j : Nat}, fs[j]? = some f → (mkFs k fs)[j]? = some (mkF (kEnd k (fs.take j)) f)
  | [], _, _, h => by simp at h
  | g :: r, k, 0, h => by
    simp at h
    subst h
    rfl
  | g :: r, k, j + 1, h => by
    show (mkFs (fEnd k g) r)[j]? = _
    rw [mkFs_at (k := fEnd k g) (by simpa using h)]
    rfl

theorem kEnd_step {fs : List F} {f : F} {k0 : Int} {j : Nat} (hfj : fs[j]? = some f) (hk : 0 < k0) (hk' : kEnd k0 fs ≤ 100000000) : kEnd k0 (fs.take (j + 1)) = kEnd k0 (fs.take j) + 2 + 3 * (f.slots.length : Int) ∧ 0 < kEnd k0 (fs.take j) ∧ kEnd k0 (fs.take j) + 2 + 3 * (f.slots.length : Int) ≤ 100000000 := by
  have hKn : kEnd k0 (fs.take (j + 1)) = kEnd k0 (fs.take j) + 2 + 3 * (f.slots.length : Int) := by rw [take_succ' fs j f hfj, kEnd_snoc]; rfl
  refine ⟨hKn, by have := kEnd_ge (fs.take j) k0; omega, ?_⟩
  rw [← hKn]
  have h1 := kEnd_append (fs.drop (j + 1)) (fs.take (j + 1)) k0
  rw [List.take_append_drop] at h1
  have h2 := kEnd_ge (fs.drop (j + 1)) (kEnd k0 (fs.take (j + 1)))
  omega

set_option maxRecDepth 100000 in
set_option maxHeartbeats 1600000 in
theorem heldFactS_any (a : Option Addr) (c : Nat) (fs : List F) (k0 : Int) (w : World) (hv : FactsAt w a (mkFs k0 fs)) (hl : fs.length ≤ 1048576) (hs : ∀ f ∈ fs, f.slots.length ≤ 1048576) (hk : 0 < k0) (hk' : kEnd k0 fs ≤ 100000000) :
    Calls Try.prog 128 #[.slice a fs.length c, .int .i64 k0] w fun e w' =>
      e = .returned (.int .i64 (kEnd k0 fs)) ∧ Below w.heap.size w w' := by
  go_enter Try.func128, Try.ntmps128
  go_wp2
  go_loopw [1, 5] (fun kv i wr => ∃ (j : Nat), j ≤ fs.length ∧ i = .int .i64 j ∧ kv = .int .i64 (kEnd k0 (fs.take j)) ∧ Below w.heap.size w wr) (fun _ i _ => fs.length - (intOf i).toNat)
  case atStart => exact ⟨0, by omega, rfl, rfl, Below.refl _ _⟩
  case round =>
    obtain ⟨j, hj, rfl, rfl, hb⟩ := hrel
    by_cases hjl : j < fs.length
    · obtain ⟨f, hfj⟩ : ∃ f, fs[j]? = some f := ⟨fs[j], by simp [hjl]⟩
      obtain ⟨hKn, hKpos, hKle⟩ := kEnd_step hfj hk hk'
      have hat := mkFs_at (k := k0) hfj
      obtain ⟨K, hK⟩ : ∃ K, K = kEnd k0 (fs.take j) := ⟨_, rfl⟩
      rw [← hK] at hKn hKpos hKle hat
      obtain ⟨b, o, rfl, d0, d1, s, cs, d2, hsl⟩ := hv.below hb j _ hat
      have c0 : wr.cell? ⟨b, o + j * 3, none⟩ = some (.int .i64 K) := d0
      have c1 : wr.cell? ⟨b, o + j * 3 + 1, none⟩ = some (.string (mText (K + 1))) := d1
      have c2 : wr.cell? ⟨b, o + j * 3 + 2, none⟩ = some (.slice s f.slots.length cs) := by rw [d2]; simp [mkF, mkVs_len]
      have hsl2 : ValsAt wr s (mkVs (K + 2) f.slots.length) := hsl
      have hsf := hs f (List.mem_of_getElem? hfj)
      have hw1 : IntKind.i64.wrap (K + 1) = K + 1 := by rw [IntKind.wrap_i64]; omega
      have hw2 : IntKind.i64.wrap (K + 1 + 1) = K + 2 := by rw [IntKind.wrap_i64]; omega
      have hnn : ¬ (K + 2 + 3 * (f.slots.length : Int) < 0) := by omega
      have HKn := hidden' hKn
      rw [← hK]
      clear d0 d1 d2 hsl hat hK hKn hfj
      go_wp2_with fail
      go_region_held3 (fun w' => w'.cell? ⟨b, o + j * 3 + 1, none⟩ = some (.string (mText (K + 1)))) ((first | with_reducible exact cell_below hb1 (by assumption) | exact c1))
        ((go_at_call 77; refine (markText_any (K + 1) _ (by omega) (by omega)).mono ?_; rintro e w1 ⟨rfl, hb1⟩))
      have hB1 : Below w.heap.size w w1 := hb.drew.trans (hb1.mono hb.size)
      have e2 : w1.cell? ⟨b, o + j * 3 + 2, none⟩ = some (.slice s f.slots.length cs) := cell_below hb1 c2
      have hsl3 : ValsAt w1 s (mkVs (K + 2) f.slots.length) := ValsAt.below (w := wr.drew) hsl2 hb1
      go_wp2_with (go_at_call 174; refine (heldValueS_any s cs f.slots.length (K + 2) w1 hsl3 hsf (by omega) (by omega)).mono ?_; rintro e w2 ⟨rfl, hb2⟩)
      go_roundw
      case rel => exact ⟨j + 1, by omega, by go_num, by rw [HKn.out], hB1.trans (hb2.mono hB1.size)⟩
      case measure => simp [intOf]; omega
    · go_wp2
      go_ret
      obtain rfl : j = fs.length := by omega
      rw [List.take_of_length_le (Nat.le_refl _)]
      exact ⟨rfl, hb⟩

set_option maxHeartbeats 800000 in
theorem markStore_any (a : Option Addr) (c : Nat) (fs : List F) (nx cp : Int) (sg : Bool) (xs : List Value) (base : Nat) (k0 : Int) (w : World) (ho : OFs w base (.slice a fs.length c) fs.length fs xs) (hl : fs.length ≤ 1048576) (hs : ∀ f ∈ fs, f.slots.length ≤ 1048576) (hk : 0 < k0) (hk' : kEnd k0 fs ≤ 100000000) :
    Calls Try.prog 28 #[.agg #[.slice a fs.length c, .int .i64 nx, .int .i64 cp, .bool sg], .int .i64 k0] w fun e w' =>
      e = .returned (.int .i64 (kEnd k0 fs)) ∧ OFs w' base (.slice a fs.length c) fs.length (mkFs k0 fs) xs ∧ Mk (InBlk (.slice a fs.length c) xs) w w' := by
  go_enter Try.func28, Try.ntmps28
  go_wp2_with (go_at_call 59; refine (markFactS_any a c fs xs base k0 _ (ho.allocd _) hl hs hk hk').mono ?_; rintro e w1 ⟨rfl, ho1, hm1⟩)
  go_ret
  exact ⟨rfl, ho1, (Mk.of_below ((Below.refl _ _).alloc (Nat.le_refl _) _)).trans hm1⟩

set_option maxHeartbeats 800000 in
theorem heldStore_any (a : Option Addr) (c : Nat) (fs : List F) (nx cp : Int) (sg : Bool) (k0 : Int) (w : World) (hv : FactsAt w a (mkFs k0 fs)) (hl : fs.length ≤ 1048576) (hs : ∀ f ∈ fs, f.slots.length ≤ 1048576) (hk : 0 < k0) (hk' : kEnd k0 fs ≤ 100000000) :
    Calls Try.prog 78 #[.agg #[.slice a fs.length c, .int .i64 nx, .int .i64 cp, .bool sg], .int .i64 k0] w fun e w' =>
      e = .returned (.int .i64 (kEnd k0 fs)) ∧ Below w.heap.size w w' := by
  have B1 : ∀ o, Below w.heap.size w (w.alloc o) := fun o => (Below.refl _ _).alloc (Nat.le_refl _) _
  have hnn : ¬ kEnd k0 fs < 0 := by have := kEnd_ge fs k0; omega
  go_enter Try.func78, Try.ntmps78
  go_wp2_with (go_at_call 128; refine (heldFactS_any a c fs k0 _ (hv.below (B1 _)) hl hs hk hk').mono ?_; rintro e w1 ⟨rfl, hb1⟩)
  go_ret
  exact ⟨rfl, (B1 _).trans (hb1.mono (by simp))⟩

set_option maxHeartbeats 800000 in
theorem markChange_any (a : Option Addr) (c : Nat) (r : C6) (xs : List Value) (base : Nat) (k0 : Int) (w : World) (ho : OFs w base (.slice a r.fs.length c) r.fs.length r.fs xs) (hl : r.fs.length ≤ 1048576) (hs : ∀ f ∈ r.fs, f.slots.length ≤ 1048576) (hk : 0 < k0) (hk' : kEnd k0 r.fs ≤ 100000000) :
    Calls Try.prog 30 #[r.val a c, .int .i64 k0] w fun e w' =>
      e = .returned (.int .i64 (kEnd k0 r.fs)) ∧ OFs w' base (.slice a r.fs.length c) r.fs.length (mkFs k0 r.fs) xs ∧ Mk (InBlk (.slice a r.fs.length c) xs) w w' := by
  unfold C6.val
  go_enter Try.func30, Try.ntmps30
  go_wp2_with (go_at_call 28; refine (markStore_any a c r.fs r.nx r.cp r.sg xs base k0 _ (ho.allocd _) hl hs hk hk').mono ?_; rintro e w1 ⟨rfl, ho1, hm1⟩)
  go_ret
  exact ⟨rfl, ho1, (Mk.of_below ((Below.refl _ _).alloc (Nat.le_refl _) _)).trans hm1⟩

set_option maxHeartbeats 800000 in
theorem heldChange_any (a : Option Addr) (c : Nat) (r : C6) (k0 : Int) (w : World) (hv : FactsAt w a (mkFs k0 r.fs)) (hl : r.fs.length ≤ 1048576) (hs : ∀ f ∈ r.fs, f.slots.length ≤ 1048576) (hk : 0 < k0) (hk' : kEnd k0 r.fs ≤ 100000000) :
    Calls Try.prog 31 #[r.val a c, .int .i64 k0] w fun e w' =>
      e = .returned (.int .i64 (kEnd k0 r.fs)) ∧ Below w.heap.size w w' := by
  have B1 : ∀ o, Below w.heap.size w (w.alloc o) := fun o => (Below.refl _ _).alloc (Nat.le_refl _) _
  have hnn : ¬ kEnd k0 r.fs < 0 := by have := kEnd_ge r.fs k0; omega
  unfold C6.val
  go_enter Try.func31, Try.ntmps31
  go_wp2_with (go_at_call 78; refine (heldStore_any a c r.fs r.nx r.cp r.sg k0 _ (hv.below (B1 _)) hl hs hk hk').mono ?_; rintro e w1 ⟨rfl, hb1⟩)
  go_ret
  exact ⟨rfl, (B1 _).trans (hb1.mono (by simp))⟩

set_option maxHeartbeats 800000 in
theorem eqChange_same (a a' : Option Addr) (c c' : Nat) (r : C6) (w : World) (hv : FactsAt w a r.fs) (hv' : FactsAt w a' r.fs) (hl : r.fs.length ≤ 1048576) (hs : ∀ f ∈ r.fs, f.slots.length ≤ 1048576) :
    Calls Try.prog 26 #[r.val a c, r.val a' c'] w fun e w' => e = .returned (.bool true) ∧ Below w.heap.size w w' := by
  have B2 : ∀ o o', Below w.heap.size w ((w.alloc o).alloc o') := fun o o' => ((Below.refl _ _).alloc (Nat.le_refl _) _).alloc (by simp) _
  unfold C6.val
  go_enter Try.func26, Try.ntmps26
  go_wp2_with (go_at_call 22; refine (eqStore_same a a' c c' r.fs r.nx r.cp r.sg _ (hv.below (B2 _ _)) (hv'.below (B2 _ _)) hl hs).mono ?_; rintro e w' ⟨rfl, hb'⟩; obtain ⟨hc, hf⟩ := bcell hb')
  go_ret
  exact ⟨rfl, (B2 _ _).trans (hb'.mono (by simp; omega))⟩
end Go.Proofs.Ytgamdkokmkagaaa

namespace Go.Proofs.Ytgamdkokmkagaaa
open Go.RowKit
attribute [local go_sem ↓] Go.wp_at_zero Go.wp_at_succ

def stC (a : Option Addr) (n c : Nat) (nx cp : Int) (sg : Bool) : List Value := [.slice a n c, .int .i64 nx, .int .i64 cp, .bool sg]
theorem stC_one (a : Option Addr) (n c : Nat) (nx cp : Int) (sg : Bool) : ∀ v ∈ stC a n c nx cp sg, v.oneCell' = true := by
  intro v hv
  simp only [stC, List.mem_cons, List.not_mem_nil, or_false] at hv
  rcases hv with rfl | rfl | rfl | rfl <;> rfl
theorem infoLS : (Try.prog.info? 43).map (·.size) = some 4 := by kernel_rfl
theorem infoIS : (Try.prog.info? 26).map (·.size) = some 4 := by kernel_rfl

theorem blk_below {w w' : World} {b : Nat} {o : Obj} (h : w.heap[b]? = some o) (hb : Below w.heap.size w w') : w'.heap[b]? = some o := (hb.block b (lt_of_block' h)).trans h
theorem blk_turned {w w' : World} {b b' : Nat} {o : Obj} (h : w.heap[b]? = some o) (ht : Turned w w' b') (hne : b ≠ b') : w'.heap[b]? = some o := (ht.block b hne).trans h
theorem blk_mk {S : Nat → Prop} {w w' : World} {b : Nat} {o : Obj} (h : w.heap[b]? = some o) (hm : Mk S w w') (hs : ¬ S b) : w'.heap[b]? = some o := (hm.block b (lt_of_block' h) hs).trans h
theorem blk_new {w w' : World} {o o' : Obj} {b : Nat} (h : w.heap[b]? = some o) (ht : Turned (w.alloc o') w' w.heap.size) : w'.heap[b]? = some o := by
  have hl := lt_of_block' h
  exact blk_turned ((Below.heap_alloc _ _ _ hl).trans h) ht (by omega)
theorem new_below {w w' : World} {o' : Obj} (ht : Turned (w.alloc o') w' w.heap.size) : Below w.heap.size w w' :=
  ((Below.refl _ _).alloc (Nat.le_refl _) _).trans (ht.below (Nat.le_refl _))
theorem new_size {w w' : World} {o' : Obj} (ht : Turned (w.alloc o') w' w.heap.size) : w'.heap.size = w.heap.size + 1 := by rw [ht.size]; simp

theorem st_cells {w : World} {b : Nat} {a : Option Addr} {n c : Nat} {nx cp : Int} {sg : Bool} {t : TypeId} {fr : Nat × Nat} (h : w.heap[b]? = some (.cells (stC a n c nx cp sg).toArray t fr)) : w.cell? ⟨b, 0, none⟩ = some (.slice a n c) ∧ w.cell? ⟨b, 1, none⟩ = some (.int .i64 nx) ∧ w.cell? ⟨b, 2, none⟩ = some (.int .i64 cp) ∧ w.cell? ⟨b, 3, none⟩ = some (.bool sg) := by
  have hc := range_blk h
  exact ⟨hc 0 _ rfl, hc 1 _ rfl, hc 2 _ rfl, hc 3 _ rfl⟩

theorem c6_cells {w : World} {b : Nat} {r : C6} {a : Option Addr} {c : Nat} {t : TypeId} {fr : Nat × Nat} (h : w.heap[b]? = some (.cells (r.cells a c).toArray t fr)) : w.cell? ⟨b, 0, none⟩ = some (.slice a r.fs.length c) ∧ w.cell? ⟨b, 1, none⟩ = some (.int .i64 r.nx) ∧ w.cell? ⟨b, 2, none⟩ = some (.int .i64 r.cp) ∧ w.cell? ⟨b, 3, none⟩ = some (.bool r.sg) ∧ w.cell? ⟨b, 4, none⟩ = some (.int .i64 r.code) ∧ w.cell? ⟨b, 5, none⟩ = some (.int .i64 r.tag) := by
  have hc := range_blk h
  exact ⟨hc 0 _ rfl, hc 1 _ rfl, hc 2 _ rfl, hc 3 _ rfl, hc 4 _ rfl, hc 5 _ rfl⟩

/-- How far the marks reach over facts. -/
def wt (l : List F) : Nat := 2 * l.length + 3 * (l.map fun f => f.slots.length).sum
theorem kEnd_wt : ∀ (l : List F) (k : Int), kEnd k l = k + (wt l : Int)
  | [], k => by simp [kEnd, wt]
  | f :: r, k => by
    show kEnd (fEnd k f) r = _
    rw [kEnd_wt r]
    unfold fEnd wt
    simp only [List.length_cons, List.map_cons, List.sum_cons]
    omega
theorem wt_sz {fs : List F} (h : szFs fs ≤ 1048576) : wt fs ≤ 3145728 := by
  have key : ∀ l : List F, (l.map fun f => f.slots.length).sum ≤ (l.map szF).sum := by
    intro l
    induction l with
    | nil => simp
    | cons f r ih =>
      simp only [List.map_cons, List.sum_cons]
      have e : szF f = f.cls.size + szVs f.slots := rfl
      have e2 : f.slots.length ≤ szVs f.slots := by unfold szVs; omega
      omega
  have := key fs
  unfold szFs at h
  unfold wt
  omega
theorem wt_erase : ∀ (l : List F) (i : Nat), wt (l.eraseIdx i) ≤ wt l
  | [], i => by simp [wt]
  | f :: r, 0 => by
    unfold wt
    simp only [List.eraseIdx_zero, List.tail_cons, List.length_cons, List.map_cons, List.sum_cons]
    omega
  | f :: r, i + 1 => by
    have := wt_erase r i
    unfold wt at this ⊢
    simp only [List.eraseIdx_cons_succ, List.length_cons, List.map_cons, List.sum_cons]
    omega

/-- What the law asks of the facts of an answer. -/
structure Fit6 (fs : List F) : Prop where
  len : fs.length ≤ 1048576
  slots : ∀ f ∈ fs, f.slots.length ≤ 1048576
  marks : kEnd 1 fs ≤ 100000000

theorem fit_of {fs : List F} (h : szFs fs ≤ 1048576) : Fit6 fs :=
  ⟨(szFs_le h).1, fun f hf => ((szFs_le h).2 f hf).2.1, by rw [kEnd_wt]; have := wt_sz h; omega⟩

theorem fit_retr {fs : List F} {nx cp : Int} {sg : Bool} {tag : Int} (h : szFs fs ≤ 1048576) : Fit6 (retr fs nx cp sg tag).fs := by
  have hf := fit_of h
  unfold retr
  split
  · split
    · exact hf
    · rename_i i _
      refine ⟨Nat.le_trans (by show (fs.eraseIdx i).length ≤ fs.length; rw [List.length_eraseIdx]; split <;> omega) hf.len, fun f hm => hf.slots f (List.mem_of_mem_eraseIdx hm), ?_⟩
      show kEnd 1 (fs.eraseIdx i) ≤ _
      rw [kEnd_wt]
      have h1 := wt_sz h
      have h2 := wt_erase fs i
      omega
  · exact ⟨by simp [C6.bad], fun f hm => by simp [C6.bad] at hm, by simp [C6.bad, kEnd]⟩

set_option maxRecDepth 100000 in
set_option maxHeartbeats 4000000 in
theorem law_ret (a : Option Addr) (c : Nat) (fs : List F) (nx cp : Int) (sg : Bool) (tag : Int) (w : World) (hv : FactsAt w a fs) (ha : Arg fs) (hwt : (Lit.int .i64 tag).wf = true) :
    Calls Try.prog 6 #[.agg #[.slice a fs.length c, .int .i64 nx, .int .i64 cp, .bool sg], .int .i64 tag] w fun e w' =>
      e = .returned (.bool true) ∧ Below w.heap.size w w' := by
  have B1 : ∀ o, Below w.heap.size w (w.alloc o) := fun o => (Below.refl _ _).alloc (Nat.le_refl _) _
  obtain ⟨hl0, hs0⟩ := ha
  have hr : ∀ f ∈ fs, Read f := fun f hf => (hs0 f hf).2.2
  have hs1 : ∀ f ∈ fs, f.cls.size ≤ maxLen ∧ f.slots.length ≤ maxLen ∧ ∀ v ∈ f.slots, v.sym.size ≤ maxLen := fun f hf => ⟨(hs0 f hf).1, (hs0 f hf).2.1, fun v hvv => ((hs0 f hf).2.2.2 v hvv).2.2⟩
  go_enter Try.func6, Try.ntmps6
  go_wp2_with (go_at_call 19; refine (szStore_any a c fs nx cp sg 1048576 _ (hv.below (B1 _)) hl0 hs1 (by omega) (by omega)).mono ?_; rintro e w1 ⟨⟨r, rfl, hr1⟩, hb1⟩; obtain ⟨hc1, hf1⟩ := bcell hb1)
  · go_ret
    exact ⟨rfl, (B1 _).trans (hb1.mono (by simp))⟩
  · have hsz : szFs fs ≤ 1048576 := by
      rcases hr1 with h | ⟨_, h⟩
      · omega
      · omega
    have hB1 : Below w.heap.size w w1 := (B1 _).trans (hb1.mono (by simp))
    have HA1 : w1.heap[w.heap.size]? = some (.cells (stC a fs.length c nx cp sg).toArray 43 (0, 0)) := (hb1.block _ (by simp)).trans (new_blk _ _ _ rfl)
    clear hc1 hf1 hs0 hs1 hl0 hr1 hb1
    have hl := (szFs_le hsz).1
    have hs := sized_of hsz
    have hsl : ∀ f ∈ fs, f.slots.length ≤ 1048576 := fun f hf => (hs f hf).2.1
    have hfit := fit_of hsz
    have hfitR := fit_retr (nx := nx) (cp := cp) (sg := sg) (tag := tag) hsz
    have HA := hidden' HA1
    clear HA1
    refine (toStore_any a c fs nx cp sg w1 (hv.below hB1) hl hsl).mono ?_
    rintro e w2 ⟨⟨g2, gs2, hg2, rfl, ho2⟩, hb2⟩
    go_wp2_with fail
    refine (sRetract_any (some ⟨g2, 0, none⟩) fs.length fs nx cp sg tag w2 ho2.at (Nat.le_refl _) hl hs).mono ?_
    generalize hR : retr fs nx cp sg tag = R at hfitR ⊢
    rintro e w3 ⟨⟨a3, c3, rfl, hv3⟩, hb3⟩
    have hB3 : Below w1.heap.size w1 w3 := hb2.trans (hb3.mono hb2.size)
    have HA3 := hidden' (blk_below HA.out hB3)
    have hW3 : Below w.heap.size w w3 := hB1.trans (hB3.mono hB1.size)
    clear hb2 hb3 ho2 HA
    go_wp2_with (first | (refine wpList_store_blk (by rfl) 33 (.tmp 6) (.tmp 21) (by rfl) w3.heap.size (R.cells a3 c3) (by rfl) (by rfl) _ 33 (new_blk _ _ _ rfl) (by rfl) infoC (C6.one _ _ _) ?_; intro w3' hh3 ht3; have HA3' := hidden' (blk_new HA3.out ht3.out)) | (refine wpList_load_blk (by rfl) 43 (.tmp 2) (by rfl) w.heap.size (stC a fs.length c nx cp sg) (by rfl) 43 (0, 0) HA3'.out _ Try.underlying43 (by rfl) infoLS ?_) | fail)
    have hz3 := new_size ht3.out
    have hW3' : Below w.heap.size w w3' := hW3.trans ((new_below ht3.out).mono hW3.size)
    have hon3 := hv3.on.kept (w' := w3') (fun b _ hlt => (new_below ht3.out).block b hlt)
    have hlA : w.heap.size < w3.heap.size := lt_of_block' HA3.out
    clear ht3 HA3 hv3
    refine (toStore_any a c fs nx cp sg w3' (hv.below hW3') hl hsl).mono ?_
    rintro e w4 ⟨⟨g4, gs4, hg4, rfl, ho4⟩, hb4⟩
    obtain ⟨xs4, hx4⟩ := ho4.ofs (base := w3'.heap.size) hg4 (by unfold maxLen; omega) (fun f hf => by have := hsl f hf; unfold maxLen; omega)
    have HA4 := hidden' (blk_below HA3'.out hb4)
    have HW4 := hidden' (blk_below hh3.out hb4)
    have hon4 := hon3.kept (w' := w4) (fun b _ hlt => hb4.block b hlt)
    have hW4 : Below w.heap.size w w4 := hW3'.trans (hb4.mono hW3'.size)
    have hz4 := hb4.size
    have hR4 := hidden' (fun g (hg : InBlk (.slice (some ⟨g4, 0, none⟩) fs.length fs.length) xs4 g) => hx4.range hg)
    have HX4 := hidden' hx4
    have HN4 := hidden' hon4
    clear ho4 hb4 hh3 HA3' hon3 hx4 hon4
    go_wp2_with (first | (refine wpList_store_blk (by rfl) 26 (.tmp 7) (.tmp 23) (by rfl) w4.heap.size (stC (some ⟨g4, 0, none⟩) fs.length fs.length nx cp sg) (by rfl) (by rfl) _ 26 (new_blk _ _ _ rfl) (by rfl) infoIS (stC_one _ _ _ _ _ _) ?_; intro w4' hh4 ht4) | (refine wpList_load_blk (by rfl) 26 (.tmp 7) (by rfl) w4.heap.size (stC (some ⟨g4, 0, none⟩) fs.length fs.length nx cp sg) (by rfl) 26 (0, 0) hh4.out _ Try.underlying26 (by rfl) infoIS ?_) | fail)
    have hz4' := new_size ht4.out
    have hn4 := new_below ht4.out
    have HA5 := hidden' (blk_new HA4.out ht4.out)
    have HW5 := hidden' (blk_new HW4.out ht4.out)
    have HX5 := hidden' (HX4.out.below hn4)
    have HN5 := hidden' (HN4.out.kept (w' := w4') (fun b _ hlt => hn4.block b hlt))
    have hW4' : Below w.heap.size w w4' := hW4.trans (hn4.mono hW4.size)
    clear ht4 HA4 HW4 HX4 HN4 hn4
    have hir := iRetract_any (some ⟨g4, 0, none⟩) fs.length fs nx cp sg tag w4' HX5.out.at (Nat.le_refl _) hl hs hr hwt
    rw [hR] at hir
    refine hir.mono ?_
    clear hir
    rintro e w5 ⟨⟨a5, c5, xs5, rfl, ho5⟩, hb5⟩
    have HA6 := hidden' (blk_below HA5.out hb5)
    have HW6 := hidden' (blk_below HW5.out hb5)
    have HB6 := hidden' (blk_below hh4.out hb5)
    have HX6 := hidden' (HX5.out.below hb5)
    have HN6 := hidden' (HN5.out.kept (w' := w5) (fun b _ hlt => hb5.block b hlt))
    have hW5 : Below w.heap.size w w5 := hW4'.trans (hb5.mono hW4'.size)
    have hz5 := hb5.size
    have hR5 := hidden' (fun g (hg : InBlk (.slice a5 R.fs.length c5) xs5 g) => ho5.range hg)
    have HG6 := hidden' ho5
    clear HA5 HW5 hh4 HX5 HN5 hb5 ho5
    go_wp2_with (first | (refine wpList_store_blk (by rfl) 33 (.tmp 8) (.tmp 26) (by rfl) w5.heap.size (R.cells a5 c5) (by rfl) (by rfl) _ 33 (new_blk _ _ _ rfl) (by rfl) infoC (C6.one _ _ _) ?_; intro w5' hh5 ht5; have HW6' := hidden' (blk_new HW6.out ht5.out)) | (refine wpList_load_blk (by rfl) 33 (.tmp 8) (by rfl) w5.heap.size (R.cells a5 c5) (by rfl) 33 (0, 0) hh5.out _ Try.underlying33 (by rfl) infoC ?_) | (refine wpList_load_blk (by rfl) 33 (.tmp 6) (by rfl) w3.heap.size (R.cells a3 c3) (by rfl) 33 (0, 0) HW6'.out _ Try.underlying33 (by rfl) infoC ?_) | fail)
    have hz5' := new_size ht5.out
    have hn5 := new_below ht5.out
    have HA7 := hidden' (blk_new HA6.out ht5.out)
    have HB7 := hidden' (blk_new HB6.out ht5.out)
    have HX7 := hidden' (HX6.out.below hn5)
    have HN7 := hidden' (HN6.out.kept (w' := w5') (fun b _ hlt => hn5.block b hlt))
    have HG7 := hidden' (HG6.out.below hn5)
    have hW5' : Below w.heap.size w w5' := hW5.trans (hn5.mono hW5.size)
    clear ht5 HA6 HW6 HB6 HX6 HN6 HG6 hn5
    refine (eqChange_same a5 a3 c5 c3 R w5' HG7.out.at HN7.out.at hfitR.len hfitR.slots).mono ?_
    rintro e w6 ⟨rfl, hb6⟩
    have HA8 := hidden' (blk_below HA7.out hb6)
    have HB8 := hidden' (blk_below HB7.out hb6)
    have HW8 := hidden' (blk_below HW6'.out hb6)
    have HC8 := hidden' (blk_below hh5.out hb6)
    have HX8 := hidden' (HX7.out.below hb6)
    have HN8 := hidden' (HN7.out.kept (w' := w6) (fun b _ hlt => hb6.block b hlt))
    have HG8 := hidden' (HG7.out.below hb6)
    have hW6 : Below w.heap.size w w6 := hW5'.trans (hb6.mono hW5'.size)
    have hz6 := hb6.size
    clear HA7 HB7 HW6' hh5 HX7 HN7 HG7 hb6
    obtain ⟨q0, q1, q2, q3⟩ := st_cells HA8.out
    obtain ⟨p0, p1, p2, p3⟩ := st_cells HB8.out
    have hv6 := hv.below hW6
    have hx6 := HX8.out.at
    go_wp2_with fail
    go_region_held3 (fun w' => w'.cell? ⟨w.heap.size, 0, none⟩ = some (.slice a fs.length c) ∧ w'.cell? ⟨w.heap.size, 1, none⟩ = some (.int .i64 nx) ∧ w'.cell? ⟨w.heap.size, 2, none⟩ = some (.int .i64 cp) ∧ w'.cell? ⟨w.heap.size, 3, none⟩ = some (.bool sg) ∧ w'.cell? ⟨w4.heap.size, 0, none⟩ = some (.slice (some ⟨g4, 0, none⟩) fs.length fs.length) ∧ w'.cell? ⟨w4.heap.size, 1, none⟩ = some (.int .i64 nx) ∧ w'.cell? ⟨w4.heap.size, 2, none⟩ = some (.int .i64 cp) ∧ w'.cell? ⟨w4.heap.size, 3, none⟩ = some (.bool sg))
      ((go_split_ands; refine ⟨?_, ?_, ?_, ?_, ?_, ?_, ?_, ?_⟩ <;> first | with_reducible exact cell_below hb8 (by assumption) | with_reducible exact cell_below hb7 (by assumption) | with_reducible exact cell_drew (by assumption)))
      (first | (go_at_call 21; refine (toStore_any a c fs nx cp sg _ (hv6.below ?_) hl hsl).mono ?_; exact (Below.refl _ _).drew; rintro e w7 ⟨⟨g7, gs7, hg7, rfl, ho7⟩, hb7⟩) | (go_at_call 22; refine (eqStore_same (some ⟨g4, 0, none⟩) (some ⟨g7, 0, none⟩) fs.length fs.length fs nx cp sg _ (hx6.below ?_) ho7.at hl hsl).mono ?_; exact (Below.refl _ _).drew.trans hb7; rintro e w8 ⟨rfl, hb8⟩) | fail)
    have hB8 : Below w6.heap.size w6 w8 := (Below.refl _ _).drew.trans (hb7.trans (hb8.mono hb7.size))
    have HA9 := hidden' (blk_below HA8.out hB8)
    have HB9 := hidden' (blk_below HB8.out hB8)
    have HW9 := hidden' (blk_below HW8.out hB8)
    have HC9 := hidden' (blk_below HC8.out hB8)
    have HX9 := hidden' (HX8.out.below hB8)
    have HN9 := hidden' (HN8.out.kept (w' := w8) (fun b _ hlt => hB8.block b hlt))
    have HG9 := hidden' (HG8.out.below hB8)
    have hW8 : Below w.heap.size w w8 := hW6.trans (hB8.mono hW6.size)
    have hz8 := hB8.size
    clear HA8 HB8 HW8 HC8 HX8 HN8 HG8 hB8 hb7 hb8 q0 q1 q2 q3 p0 p1 p2 p3 hv6 hx6 ho7 hg7
    go_wp2_with (first | (refine wpList_load_blk (by rfl) 26 (.tmp 7) (by rfl) w4.heap.size (stC (some ⟨g4, 0, none⟩) fs.length fs.length nx cp sg) (by rfl) 26 (0, 0) HB9.out _ Try.underlying26 (by rfl) infoIS ?_) | fail)
    refine (markStore_any (some ⟨g4, 0, none⟩) fs.length fs nx cp sg xs4 w3'.heap.size 1 w8 HX9.out hl hsl (by omega) hfit.marks).mono ?_
    rintro e w9 ⟨rfl, _, hm9⟩
    have hnot9 : ∀ g, (g < w3'.heap.size ∨ w4.heap.size ≤ g) → ¬ InBlk (.slice (some ⟨g4, 0, none⟩) fs.length fs.length) xs4 g := fun g hg h => by
      have := hR4.out g h
      omega
    have HA10 := hidden' (blk_mk HA9.out hm9 (hnot9 _ (by omega)))
    have HW10 := hidden' (blk_mk HW9.out hm9 (hnot9 _ (by omega)))
    have HC10 := hidden' (blk_mk HC9.out hm9 (hnot9 _ (by omega)))
    have HN10 := hidden' (HN9.out.kept (w' := w9) (fun b hz hlt => hm9.block b hlt (hnot9 b (.inl (by omega)))))
    have HG10 := hidden' (HG9.out.kept (w' := w9) (fun g hg => hm9.block g (HG9.out.range hg).2 (hnot9 g (.inr (by have := (HG9.out.range hg).1; omega)))))
    have hW9 : Below w.heap.size w w9 := hW8.trans (hm9.below hW8.size (fun g hg => by have := (hR4.out g hg).1; omega))
    have hz9 := hm9.rest.size
    have hkx : ¬ kEnd 1 fs < 0 := by have := kEnd_ge fs 1; omega
    have hkr : ¬ kEnd 1 R.fs < 0 := by have := kEnd_ge R.fs 1; omega
    clear HA9 HW9 HC9 HN9 HG9 HB9 HX9 hm9
    obtain ⟨u0, u1, u2, u3, u4, u5⟩ := c6_cells HC10.out
    obtain ⟨v0, v1, v2, v3, v4, v5⟩ := c6_cells HW10.out
    go_wp2_with fail
    refine (eqChange_same a5 a3 c5 c3 R w9 HG10.out.at HN10.out.at hfitR.len hfitR.slots).mono ?_
    rintro e w10 ⟨rfl, hb10⟩
    have HA11 := hidden' (blk_below HA10.out hb10)
    have HW11 := hidden' (blk_below HW10.out hb10)
    have HC11 := hidden' (blk_below HC10.out hb10)
    have HN11 := hidden' (HN10.out.kept (w' := w10) (fun b _ hlt => hb10.block b hlt))
    have HG11 := hidden' (HG10.out.below hb10)
    have hW10 : Below w.heap.size w w10 := hW9.trans (hb10.mono hW9.size)
    have hz10 := hb10.size
    clear HA10 HW10 HC10 HN10 HG10 u0 u1 u2 u3 u4 u5 v0 v1 v2 v3 v4 v5 hb10
    go_wp2_with (first | (refine wpList_load_blk (by rfl) 33 (.tmp 8) (by rfl) w5.heap.size (R.cells a5 c5) (by rfl) 33 (0, 0) HC11.out _ Try.underlying33 (by rfl) infoC ?_) | fail)
    refine (markChange_any a5 c5 R xs5 w4'.heap.size 1 w10 HG11.out hfitR.len hfitR.slots (by omega) hfitR.marks).mono ?_
    rintro e w11 ⟨rfl, ho11, hm11⟩
    have hnot11 : ∀ g, (g < w4'.heap.size ∨ w5.heap.size ≤ g) → ¬ InBlk (.slice a5 R.fs.length c5) xs5 g := fun g hg h => by
      have := hR5.out g h
      omega
    have HA12 := hidden' (blk_mk HA11.out hm11 (hnot11 _ (by omega)))
    have HW12 := hidden' (blk_mk HW11.out hm11 (hnot11 _ (by omega)))
    have HC12 := hidden' (blk_mk HC11.out hm11 (hnot11 _ (by omega)))
    have HN12 := hidden' (HN11.out.kept (w' := w11) (fun b hz hlt => hm11.block b hlt (hnot11 b (.inl (by omega)))))
    have hW11 : Below w.heap.size w w11 := hW10.trans (hm11.below hW10.size (fun g hg => by have := (hR5.out g hg).1; omega))
    have hz11 := hm11.rest.size
    have hat11 := ho11.at
    clear HA11 HW11 HC11 HN11 HG11 hm11 ho11
    go_wp2_with (first | (refine wpList_load_blk (by rfl) 33 (.tmp 8) (by rfl) w5.heap.size (R.cells a5 c5) (by rfl) 33 (0, 0) HC12.out _ Try.underlying33 (by rfl) infoC ?_) | fail)
    refine (heldChange_any a5 c5 R 1 w11 hat11 hfitR.len hfitR.slots (by omega) hfitR.marks).mono ?_
    rintro e w12 ⟨rfl, hb12⟩
    have HA13 := hidden' (blk_below HA12.out hb12)
    have HW13 := hidden' (blk_below HW12.out hb12)
    have HN13 := hidden' (HN12.out.kept (w' := w12) (fun b _ hlt => hb12.block b hlt))
    have hW12 : Below w.heap.size w w12 := hW11.trans (hb12.mono hW11.size)
    have hz12 := hb12.size
    clear HA12 HW12 HC12 HN12 hat11 hb12
    go_wp2_with (first | (refine wpList_load_blk (by rfl) 43 (.tmp 2) (by rfl) w.heap.size (stC a fs.length c nx cp sg) (by rfl) 43 (0, 0) HA13.out _ Try.underlying43 (by rfl) infoLS ?_) | fail)
    refine (toStore_any a c fs nx cp sg w12 (hv.below hW12) hl hsl).mono ?_
    rintro e w13 ⟨⟨g13, gs13, hg13, rfl, ho13⟩, hb13⟩
    have HW14 := hidden' (blk_below HW13.out hb13)
    have HN14 := hidden' (HN13.out.kept (w' := w13) (fun b _ hlt => hb13.block b hlt))
    have hW13 : Below w.heap.size w w13 := hW12.trans (hb13.mono hW12.size)
    go_wp2_with fail
    have hir := iRetract_any (some ⟨g13, 0, none⟩) fs.length fs nx cp sg tag w13 ho13.at (Nat.le_refl _) hl hs hr hwt
    rw [hR] at hir
    refine hir.mono ?_
    clear hir
    rintro e w14 ⟨⟨a14, c14, xs14, rfl, ho14⟩, hb14⟩
    have HW15 := hidden' (blk_below HW14.out hb14)
    have HN15 := hidden' (HN14.out.kept (w' := w14) (fun b _ hlt => hb14.block b hlt))
    have HG15 := hidden' ho14
    have hW14 : Below w.heap.size w w14 := hW13.trans (hb14.mono hW13.size)
    clear HA13 HW13 HN13 HW14 HN14 ho13 ho14 hb13 hb14
    go_wp2_with (first | (refine wpList_store_blk (by rfl) 33 (.tmp 12) (.tmp 61) (by rfl) w14.heap.size (R.cells a14 c14) (by rfl) (by rfl) _ 33 (new_blk _ _ _ rfl) (by rfl) infoC (C6.one _ _ _) ?_; intro w14' hh14 ht14; have HW16 := hidden' (blk_new HW15.out ht14.out)) | (refine wpList_load_blk (by rfl) 33 (.tmp 12) (by rfl) w14.heap.size (R.cells a14 c14) (by rfl) 33 (0, 0) hh14.out _ Try.underlying33 (by rfl) infoC ?_) | (refine wpList_load_blk (by rfl) 33 (.tmp 6) (by rfl) w3.heap.size (R.cells a3 c3) (by rfl) 33 (0, 0) HW16.out _ Try.underlying33 (by rfl) infoC ?_) | fail)
    have hn14 := new_below ht14.out
    have hon16 := HN15.out.kept (w' := w14') (fun b _ hlt => hn14.block b hlt)
    refine (eqChange_same a14 a3 c14 c3 R w14' (HG15.out.below hn14).at hon16.at hfitR.len hfitR.slots).mono ?_
    rintro e w15 ⟨rfl, hb15⟩
    have hW14' : Below w.heap.size w w14' := hW14.trans (hn14.mono hW14.size)
    go_wp2_with fail
    go_ret
    exact ⟨rfl, hW14'.trans (hb15.mono hW14'.size)⟩
end Go.Proofs.Ytgamdkokmkagaaa
