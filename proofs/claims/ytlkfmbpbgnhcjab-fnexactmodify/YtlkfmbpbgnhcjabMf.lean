/-
  OUR OWN TEXT. Facts marked, and read again.
-/
import Derived.Test.YtlkfmbpbgnhcjabHd
import Derived.Test.YtlkfmbpbgnhcjabChg
namespace Go.Proofs.Ytlkfmbpbgnhcjab
open Go.RowKit
attribute [local go_sem ↓] Go.wp_at_zero Go.wp_at_succ

theorem OFs.marked {w w2 : World} {base n : Nat} {v x : Value} {A B : List F} {f f' : F} {X Y : List Value} (h : OFs w base v n (A ++ f :: B) (X ++ x :: Y)) (hA : X.length = A.length) (hlen : f'.slots.length = f.slots.length)
    (hv : w2.ownsRow base 81 3 v n (frows (A ++ f' :: B) (X ++ x :: Y))) (hx : w2.ownsRow base 90 3 x f'.slots.length (f'.slots.flatMap V.cells)) (hm : Mk (fun g => v.ownBlock = some g ∨ x.ownBlock = some g) w w2) : OFs w2 base v n (A ++ f' :: B) (X ++ x :: Y) := by
  have hp := List.pairwise_append.1 h.pair
  have hother : ∀ y : Value, y ∈ X ∨ y ∈ Y → ∀ g, y.ownBlock = some g → w2.heap[g]? = w.heap[g]? := by
    intro y hy g hg
    have hym : y ∈ X ++ x :: Y := by rcases hy with hy | hy <;> simp [hy]
    refine hm.block g (h.range (.inr ⟨y, hym, hg⟩)).2 ?_
    rintro (e | e)
    · exact h.apart y hym g e hg
    · rcases hy with hy | hy
      · exact hp.2.2 y hy x (by simp) g hg e
      · exact (List.pairwise_cons.1 hp.2.1).1 y hy g e hg
  refine ⟨by rw [h.num]; simp, by rw [h.len]; simp, hv, ?_, h.apart, h.pair⟩
  intro i q y hq hy
  rcases Nat.lt_trichotomy i A.length with hi | hi | hi
  · rw [List.getElem?_append_left hi] at hq
    rw [List.getElem?_append_left (by omega)] at hy
    obtain ⟨h1, h2⟩ := h.each i q y (by rw [List.getElem?_append_left hi]; exact hq) (by rw [List.getElem?_append_left (by omega)]; exact hy)
    exact ⟨h1, owns_of_block h2 (hother y (.inl (List.mem_of_getElem? hy)))⟩
  · subst hi
    rw [List.getElem?_append_right (Nat.le_refl _)] at hq
    rw [List.getElem?_append_right (by omega), hA] at hy
    simp at hq hy
    subst hq
    subst hy
    obtain ⟨⟨a, c, e⟩, _⟩ := h.each A.length f x (by simp) (by rw [List.getElem?_append_right (by omega), hA]; simp)
    exact ⟨⟨a, c, by rw [e, hlen]⟩, hx⟩
  · have e1 : ∀ u : F, (A ++ u :: B)[i]? = B[i - A.length - 1]? := fun u => by
      rw [List.getElem?_append_right (by omega), List.getElem?_cons, if_neg (by omega)]
    have e2 : (X ++ x :: Y)[i]? = Y[i - A.length - 1]? := by
      rw [List.getElem?_append_right (by omega), List.getElem?_cons, if_neg (by omega), hA]
    rw [e1] at hq
    rw [e2] at hy
    obtain ⟨h1, h2⟩ := h.each i q y (by rw [e1]; exact hq) (by rw [e2]; exact hy)
    exact ⟨h1, owns_of_block h2 (hother y (.inr (List.mem_of_getElem? hy)))⟩

theorem frows_mid (A B : List F) (X Y : List Value) (f : F) (x : Value) (h : X.length = A.length) : frows (A ++ f :: B) (X ++ x :: Y) = frows A X ++ ([.int .i64 f.tag, .string f.cls, x] ++ frows B Y) := by
  rw [frows_append A (f :: B) X (x :: Y) h]
  rfl

set_option maxRecDepth 100000 in
set_option maxHeartbeats 1600000 in
theorem markFactS_any (a : Option Addr) (c : Nat) (fs : List F) (xs : List Value) (base : Nat) (k0 : Int) (w : World) (ho : OFs w base (.slice a fs.length c) fs.length fs xs) (hl : fs.length ≤ 1048576) (hs : ∀ f ∈ fs, f.slots.length ≤ 1048576) (hk : 0 < k0) (hk' : kEnd k0 fs ≤ 100000000) :
    Calls Try.prog 59 #[.slice a fs.length c, .int .i64 k0] w fun e w' =>
      e = .returned (.int .i64 (kEnd k0 fs)) ∧ OFs w' base (.slice a fs.length c) fs.length (mkFs k0 fs) xs ∧ Mk (InBlk (.slice a fs.length c) xs) w w' := by
  go_enter Try.func59, Try.ntmps59
  go_wp2
  go_loopw [1, 5] (fun kv i wr => ∃ (j : Nat), j ≤ fs.length ∧ i = .int .i64 j ∧ kv = .int .i64 (kEnd k0 (fs.take j)) ∧ OFs wr base (.slice a fs.length c) fs.length (mkFs k0 (fs.take j) ++ fs.drop j) xs ∧ Mk (InBlk (.slice a fs.length c) xs) w wr) (fun _ i _ => fs.length - (intOf i).toNat)
  case atStart => exact ⟨0, by omega, rfl, rfl, by simpa [mkFs] using ho, Mk.refl _ _⟩
  case round =>
    obtain ⟨j, hj, rfl, rfl, ho1, hm⟩ := hrel
    have HM := hidden' hm
    clear hm ho
    by_cases hjl : j < fs.length
    · obtain ⟨f, hfj⟩ : ∃ f, fs[j]? = some f := ⟨fs[j], by simp [hjl]⟩
      have hxl : xs.length = fs.length := by rw [ho1.len]; simp [mkFs_len]; omega
      obtain ⟨x, hxj⟩ : ∃ x, xs[j]? = some x := ⟨xs[j]'(by omega), by simp [show j < xs.length by omega]⟩
      have hd : fs.drop j = f :: fs.drop (j + 1) := drop_cons hfj
      have hxs : xs = xs.take j ++ x :: xs.drop (j + 1) := by
        have := List.take_append_drop j xs
        rw [drop_cons hxj] at this
        exact this.symm
      have hAl : (mkFs k0 (fs.take j)).length = j := by rw [mkFs_len]; simp; omega
      have hXl : (xs.take j).length = (mkFs k0 (fs.take j)).length := by rw [hAl]; simp; omega
      rw [hd, hxs] at ho1
      obtain ⟨⟨a', c', e'⟩, hox⟩ := ho1.each j f x (by rw [List.getElem?_append_right (by omega), hAl]; simp) (by rw [List.getElem?_append_right (by omega), hXl, hAl]; simp)
      have hxa := ho1.apart x (by simp)
      have hrow := ho1.own
      rw [frows_mid _ _ _ _ _ _ hXl] at hrow
      have hfl : (frows (mkFs k0 (fs.take j)) (xs.take j)).length = j * 3 := by rw [frows_len _ _ hXl, hAl]
      subst e'
      obtain ⟨g, rfl, hbg, c0, f0⟩ := owns_cell (j := j * 3) (x := .int .i64 f.tag) hrow (by rw [List.getElem?_append_right (by omega), hfl]; simp)
      obtain ⟨_, he1, _, c1, f1⟩ := owns_cell (j := j * 3 + 1) (x := .string f.cls) hrow (by rw [List.getElem?_append_right (by omega), hfl, show j * 3 + 1 - j * 3 = 1 by omega]; simp)
      obtain ⟨_, he2, _, c2, _⟩ := owns_cell (j := j * 3 + 2) (x := .slice a' f.slots.length c') hrow (by rw [List.getElem?_append_right (by omega), hfl, show j * 3 + 2 - j * 3 = 2 by omega]; simp)
      cases he1
      cases he2
      have hgl : g < wr.heap.size := World.block_lt_of_cell? wr ⟨g, _, none⟩ c0
      have hsf := hs f (List.mem_of_getElem? hfj)
      obtain ⟨K, hK⟩ : ∃ K, K = kEnd k0 (fs.take j) := ⟨_, rfl⟩
      have hKn : kEnd k0 (fs.take (j + 1)) = K + 2 + 3 * (f.slots.length : Int) := by rw [take_succ' fs j f hfj, kEnd_snoc, ← hK]; rfl
      have hMn : mkFs k0 (fs.take (j + 1)) = mkFs k0 (fs.take j) ++ [mkF K f] := by rw [take_succ' fs j f hfj, mkFs_snoc, ← hK]
      have hKpos : 0 < K := by rw [hK]; have := kEnd_ge (fs.take j) k0; omega
      have hKle : K + 2 + 3 * (f.slots.length : Int) ≤ 100000000 := by
        rw [← hKn]
        have h1 := kEnd_append (fs.drop (j + 1)) (fs.take (j + 1)) k0
        rw [List.take_append_drop] at h1
        have h2 := kEnd_ge (fs.drop (j + 1)) (kEnd k0 (fs.take (j + 1)))
        omega
      have hw1 : IntKind.i64.wrap (K + 1) = K + 1 := by rw [IntKind.wrap_i64]; omega
      have hw2 : IntKind.i64.wrap (K + 1 + 1) = K + 2 := by rw [IntKind.wrap_i64]; omega
      have HO := hidden' ho1
      have HX := hidden' hox
      have HR := hidden' hrow
      have HKn := hidden' hKn
      have HMn := hidden' hMn
      have HXS := hidden' hxs
      clear ho1 hox hrow hKn hMn hxs hd
      rw [← hK]
      have HFL := hidden' hfl
      have HXL := hidden' hXl
      clear hK hfl hAl hXl hxl hxj hfj
      go_wp2_with (go_at_call 60; refine (markText_any (K + 1) _ (by omega) (by omega)).mono ?_; rintro e w1 ⟨rfl, hb1⟩; obtain ⟨hc1, hf1⟩ := bcell hb1)
      have hne : ∀ g', (Value.slice a' f.slots.length c').ownBlock = some g' → g' ≠ g := fun g' hg' e => hxa g rfl (by rw [hg', e])
      have hox2 : (w1.setCell ⟨g, j * 3 + 1, none⟩ (.string (mText (K + 1)))).ownsRow base 90 3 (.slice a' f.slots.length c') f.slots.length (f.slots.flatMap V.cells) :=
        owns_of_block HX.out (fun g' hg' => (Below.heap_setCell _ _ _ _ (hne g' hg')).trans ((hb1.block g' (by simpa using (HX.out.lt g' hg').2)).trans (Below.heap_setCell _ _ _ _ (hne g' hg'))))
      refine (markValueS_any a' c' f.slots base (K + 2) _ hox2 hsf (by omega) (by omega)).mono ?_
      rintro e w2 ⟨rfl, ho2, hm2⟩
      have s1 := (HR.out.stored (j * 3) (.int .i64 K)).1
      have s2 := owns_of_block s1 (w' := w1) (fun g' hg' => hb1.block g' (by cases hg'; simpa using hgl))
      have s3 := (s2.stored (j * 3 + 1) (.string (mText (K + 1)))).1
      have hz1 : wr.heap.size ≤ w1.heap.size := by have := hb1.size; simpa using this
      have s4 := owns_of_block s3 (w' := w2) (fun g' hg' => hm2.block g' (by cases hg'; simp; omega) (fun e => hne g' e (by cases hg'; rfl)))
      have e4 : ((frows (mkFs k0 (fs.take j)) (xs.take j) ++ ([Value.int .i64 f.tag, Value.string f.cls, Value.slice a' f.slots.length c'] ++ frows (fs.drop (j + 1)) (xs.drop (j + 1)))).set (j * 3) (.int .i64 K)).set (j * 3 + 1) (.string (mText (K + 1))) = frows (mkFs k0 (fs.take j) ++ mkF K f :: fs.drop (j + 1)) (xs.take j ++ .slice a' f.slots.length c' :: xs.drop (j + 1)) := by
        rw [frows_mid _ _ _ _ _ _ HXL.out, ← HFL.out]
        simp [mkF]
      rw [e4] at s4
      have m0 := fun (u : World) (o : Nat) (y : Value) => Mk.set (S := fun g' => (Value.slice (some ⟨g, 0, none⟩) fs.length c).ownBlock = some g' ∨ (Value.slice a' f.slots.length c').ownBlock = some g') (w := u) (p := ⟨g, o, none⟩) (.inl rfl) y
      have m2 := (((m0 wr (j * 3) (.int .i64 K)).trans (Mk.of_below hb1)).trans (m0 w1 (j * 3 + 1) (.string (mText (K + 1))))).trans (hm2.mono (fun _ h => .inr h))
      have hS := HO.out.marked HXL.out (f' := mkF K f) (mkVs_len _ _) s4 (by show w2.ownsRow _ _ _ _ (mkVs (K + 2) f.slots.length).length _; rw [mkVs_len]; exact ho2) m2
      have hmem : ∀ g', (Value.slice (some ⟨g, 0, none⟩) fs.length c).ownBlock = some g' ∨ (Value.slice a' f.slots.length c').ownBlock = some g' → InBlk (.slice (some ⟨g, 0, none⟩) fs.length c) xs g' := by
        rintro g' (h | h)
        · exact .inl h
        · exact .inr ⟨_, by rw [HXS.out]; simp, h⟩
      have m3 := HM.out.trans (m2.mono hmem)
      rw [← HXS.out] at hS
      have e5 : mkFs k0 (fs.take j) ++ mkF K f :: fs.drop (j + 1) = mkFs k0 (fs.take (j + 1)) ++ fs.drop (j + 1) := by rw [HMn.out]; simp
      rw [e5] at hS
      clear m2 m0 e5 e4 s4 s3 s2 s1 hm2 ho2
      go_wp2_with fail
      go_roundw
      case rel => exact ⟨j + 1, by omega, by go_num, by rw [HKn.out], hS, m3⟩
      case measure => simp [intOf]; omega
    · go_wp2
      go_ret
      obtain rfl : j = fs.length := by omega
      rw [List.drop_eq_nil_of_le (Nat.le_refl _), List.append_nil, List.take_of_length_le (Nat.le_refl _)] at ho1
      rw [List.take_of_length_le (Nat.le_refl _)]
      exact ⟨rfl, ho1, HM.out⟩
end Go.Proofs.Ytlkfmbpbgnhcjab
