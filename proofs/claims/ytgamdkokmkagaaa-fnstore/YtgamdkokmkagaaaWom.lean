/-
  OUR OWN TEXT. The program's copies of stores: whole, and without one fact.
-/
import Derived.Test.YtgamdkokmkagaaaPlm
namespace Go.Proofs.Ytgamdkokmkagaaa
open Go.RowKit
attribute [local go_sem ↓] Go.wp_at_zero Go.wp_at_succ

theorem frows_append (fs gs : List F) (xs ys : List Value) (h : xs.length = fs.length) : frows (fs ++ gs) (xs ++ ys) = frows fs xs ++ frows gs ys := by
  unfold frows
  rw [List.zip_append h.symm, List.flatMap_append]

/-- More facts, by append. -/
theorem OFs.app {w w' : World} {base B : Nat} {v v' u : Value} {n m : Nat} {fs gs : List F} {xs ys : List Value} (h : OFs w base v n fs xs) (hlt : ∀ g, InBlk v xs g → g < B) (hu : OFs w B u m gs ys) (hB : base ≤ B)
    (ho : w'.ownsRow base 117 3 v' (n + m) (frows fs xs ++ frows gs ys)) (hg : w.grownBy w' v.ownBlock) (hl : v'.ownBlock = v.ownBlock ∨ v'.ownBlock = some w.heap.size) : OFs w' base v' (n + m) (fs ++ gs) (xs ++ ys) := by
  have hx : ∀ y ∈ xs, ∀ g, y.ownBlock = some g → g < w.heap.size ∧ v.ownBlock ≠ some g ∧ g < B := fun y hy g hgy => ⟨(h.range (.inr ⟨y, hy, hgy⟩)).2, fun e => h.apart y hy g e hgy, hlt g (.inr ⟨y, hy, hgy⟩)⟩
  have hy : ∀ y ∈ ys, ∀ g, y.ownBlock = some g → g < w.heap.size ∧ v.ownBlock ≠ some g ∧ B ≤ g := fun y hy g hgy => by
    have hr := hu.range (.inr ⟨y, hy, hgy⟩)
    exact ⟨hr.2, fun e => by have := hlt g (.inl e); omega, hr.1⟩
  have hblk : ∀ y : Value, y ∈ xs ++ ys → ∀ g, y.ownBlock = some g → g < w.heap.size ∧ v.ownBlock ≠ some g ∧ w'.heap[g]? = w.heap[g]? := by
    intro y hm g hgy
    have : g < w.heap.size ∧ v.ownBlock ≠ some g := by
      rcases List.mem_append.1 hm with hm | hm
      · exact ⟨(hx y hm g hgy).1, (hx y hm g hgy).2.1⟩
      · exact ⟨(hy y hm g hgy).1, (hy y hm g hgy).2.1⟩
    exact ⟨this.1, this.2, hg.block g this.1 (fun e => this.2 e.symm)⟩
  refine ⟨by simp [h.num, hu.num], by simp [h.len, hu.len], by rw [frows_append fs gs xs ys h.len]; exact ho, ?_, ?_, ?_⟩
  · intro i f y hf hyi
    by_cases hi : i < fs.length
    · rw [List.getElem?_append_left hi] at hf
      have hyi' := hyi
      rw [List.getElem?_append_left (by rw [h.len]; exact hi)] at hyi
      obtain ⟨h1, h2⟩ := h.each i f y hf hyi
      exact ⟨h1, owns_of_block h2 (fun g hgy => (hblk y (List.mem_of_getElem? hyi') g hgy).2.2)⟩
    · rw [List.getElem?_append_right (by omega)] at hf
      have hyi' := hyi
      rw [List.getElem?_append_right (by rw [h.len]; omega), h.len] at hyi
      obtain ⟨h1, h2⟩ := hu.each _ f y hf hyi
      exact ⟨h1, owns_base (owns_of_block h2 (fun g hgy => (hblk y (List.mem_of_getElem? hyi') g hgy).2.2)) hB⟩
  · intro y hm g hgv hgy
    obtain ⟨h1, h2, _⟩ := hblk y hm g hgy
    rcases hl with hl | hl
    · exact h2 (hl.symm.trans hgv)
    · rw [hl] at hgv
      cases hgv
      omega
  · rw [List.pairwise_append]
    refine ⟨h.pair, hu.pair, fun y hm z hz g hgy hgz => ?_⟩
    have h1 := (hx y hm g hgy).2.2
    have h2 := (hy z hz g hgz).2.2
    omega

theorem OFs.news {w : World} {base n c : Nat} {a : Option Addr} {fs : List F} {xs : List Value} (h : OFs w base (.slice a n c) n fs xs) : ∀ ad, a = some ad → ∀ j u, (frows fs xs)[j]? = some u → w.cell? (ad.add j) = some u := by
  intro ad e j u hu
  obtain ⟨g, hg, _, hc, _⟩ := owns_cell h.own hu
  rw [e] at hg
  cases hg
  rw [Addr.add_mid, Nat.zero_add]
  exact hc

theorem OFs.nilp {w : World} {base n c : Nat} {a : Option Addr} {fs : List F} {xs : List Value} (h : OFs w base (.slice a n c) n fs xs) : a = none → n = 0 := by
  intro e
  subst e
  have := h.num
  cases fs with
  | nil => simpa using this
  | cons f r =>
    have hlen := frows_len (f :: r) xs h.len
    have h0 : (frows (f :: r) xs)[0]? = some ((frows (f :: r) xs)[0]'(by rw [hlen]; simp)) := List.getElem?_eq_getElem _
    obtain ⟨g, hg, _⟩ := owns_cell h.own h0
    cases hg

theorem OFs.one {w : World} {base n : Nat} {v : Value} {fs : List F} {xs : List Value} (h : OFs w base v n fs xs) : ∀ u ∈ frows fs xs, u.oneCell' = true := by
  intro u hu
  unfold frows at hu
  obtain ⟨p, hp, hu⟩ := List.mem_flatMap.1 hu
  obtain ⟨i, hi, he⟩ := List.getElem_of_mem hp
  have hz : (fs.zip xs)[i]? = some p := by rw [List.getElem?_eq_getElem hi, he]
  obtain ⟨h1, h2⟩ := List.getElem?_zip_eq_some.1 hz
  obtain ⟨⟨a, c, e⟩, _⟩ := h.each i _ _ h1 h2
  rw [e] at hu
  exact fcells_one _ _ _ _ u hu

theorem FactsAt.take {w : World} {a : Option Addr} {fs : List F} (h : FactsAt w a fs) (k : Nat) : FactsAt w a (fs.take k) := fun i f hf => by
  rw [List.getElem?_take] at hf
  split at hf
  · exact h i f hf
  · cases hf

theorem FactsAt.drop {w : World} {b o : Nat} {fs : List F} (h : FactsAt w (some ⟨b, o, none⟩) fs) (k : Nat) : FactsAt w (some ⟨b, o + k * 3, none⟩) (fs.drop k) := fun i f hf => by
  rw [List.getElem?_drop] at hf
  obtain ⟨b', o', he, h1, h2, h3⟩ := h _ f hf
  cases he
  have e : o + k * 3 + i * 3 = o + (k + i) * 3 := by omega
  exact ⟨b, o + k * 3, rfl, by rw [e]; exact h1, by rw [e]; exact h2, by rw [e]; exact h3⟩

set_option maxHeartbeats 400000 in
theorem stCopied_any (a : Option Addr) (c : Nat) (fs : List F) (nx cp : Int) (sg : Bool) (w : World) (hv : FactsAt w a fs) (hl : fs.length ≤ 1048576) (hs : ∀ f ∈ fs, f.slots.length ≤ 1048576) :
    Calls Try.prog 169 #[.agg #[.slice a fs.length c, .int .i64 nx, .int .i64 cp, .bool sg]] w fun e w' =>
      (∃ a' c' xs, e = .returned (.agg #[.slice a' fs.length c', .int .i64 nx, .int .i64 cp, .bool sg]) ∧ OFs w' w.heap.size (.slice a' fs.length c') fs.length fs xs) ∧ Below w.heap.size w w' := by
  have B2 : ∀ o o', Below w.heap.size w ((w.alloc o).alloc o') := fun o o' => ((Below.refl _ _).alloc (Nat.le_refl _) _).alloc (by simp) _
  have hz2 : w.heap.size < w.heap.size + 1 + 1 := by omega
  go_enter Try.func169, Try.ntmps169
  go_wp2_with (go_at_call 197; refine (copyFacts_any a c fs _ (hv.below (B2 _ _)) hl hs).mono ?_; rintro e w1 ⟨⟨a1, c1, xs, rfl, ho1⟩, hb1⟩; obtain ⟨hc, hf⟩ := bcell hb1)
  refine bodyPost_ret (v := .agg #[.slice a1 fs.length c1, .int .i64 nx, .int .i64 cp, .bool sg]) (by simp [results, Try.results169, go_sem, hc]) rfl ⟨⟨a1, c1, xs, rfl, ?_⟩, ?_⟩
  · exact (((((ho1.set (by simp; omega) _).set (by simp) _).set (by simp) _).set (by simp) _).set (by simp) _).lower (by simp; omega)
  · have hB : Below w.heap.size w w1 := (B2 _ _).trans (hb1.mono (by simp; omega))
    exact ((((hB.setCell (by simp) _).setCell (by simp) _).setCell (by simp) _).setCell (by simp) _).setCell (by simp) _

set_option maxHeartbeats 400000 in
theorem refuse_any (a : Option Addr) (c : Nat) (fs : List F) (nx cp : Int) (sg : Bool) (code tag : Int) (w : World) (hv : FactsAt w a fs) (hl : fs.length ≤ 1048576) (hs : ∀ f ∈ fs, f.slots.length ≤ 1048576) :
    Calls Try.prog 168 #[.agg #[.slice a fs.length c, .int .i64 nx, .int .i64 cp, .bool sg], .int .i64 code, .int .i64 tag] w fun e w' =>
      (∃ a' c' xs, e = .returned (C6.val ⟨fs, nx, cp, sg, code, tag⟩ a' c') ∧ OFs w' w.heap.size (.slice a' fs.length c') fs.length fs xs) ∧ Below w.heap.size w w' := by
  have B2 : ∀ o o', Below w.heap.size w ((w.alloc o).alloc o') := fun o o' => ((Below.refl _ _).alloc (Nat.le_refl _) _).alloc (by simp) _
  have hz2 : w.heap.size < w.heap.size + 1 + 1 := by omega
  go_enter Try.func168, Try.ntmps168
  go_wp2_with (go_at_call 169; refine (stCopied_any a c fs nx cp sg _ (hv.below (B2 _ _)) hl hs).mono ?_; rintro e w1 ⟨⟨a1, c1, xs, rfl, ho1⟩, hb1⟩; obtain ⟨hc, hf⟩ := bcell hb1)
  refine bodyPost_ret (v := C6.val ⟨fs, nx, cp, sg, code, tag⟩ a1 c1) (by simp [results, Try.results168, go_sem, hc, C6.val]) rfl ⟨⟨a1, c1, xs, rfl, ?_⟩, ?_⟩
  · exact ((((((ho1.set (by simp) _).set (by simp) _).set (by simp) _).set (by simp) _).set (by simp) _).set (by simp) _).lower (by simp; omega)
  · have hB : Below w.heap.size w w1 := (B2 _ _).trans (hb1.mono (by simp; omega))
    exact (((((hB.setCell (by simp) _).setCell (by simp) _).setCell (by simp) _).setCell (by simp) _).setCell (by simp) _).setCell (by simp) _

theorem bcellB {B : Nat} {W w1 : World} (hb : Below B W w1) : (∀ b o, b < B → w1.cell? ⟨b, o, none⟩ = W.cell? ⟨b, o, none⟩) ∧ (∀ b o, b < B → w1.frozen? ⟨b, o, none⟩ = W.frozen? ⟨b, o, none⟩) :=
  ⟨fun b o h => hb.cell (p := ⟨b, o, none⟩) h, fun b o h => hb.frozen (p := ⟨b, o, none⟩) h⟩

theorem copyFacts_len (n : Nat) (a : Option Addr) (c : Nat) (fs : List F) (w : World) (hn : fs.length = n) (hv : FactsAt w a fs) (hl : n ≤ 1048576) (hs : ∀ f ∈ fs, f.slots.length ≤ 1048576) :
    Calls Try.prog 197 #[.slice a n c] w fun e w' =>
      (∃ a' c' xs, e = .returned (.slice a' n c') ∧ OFs w' w.heap.size (.slice a' n c') n fs xs) ∧ Below w.heap.size w w' := by
  subst hn
  exact copyFacts_any a c fs w hv hl hs

set_option maxHeartbeats 800000 in
theorem without_any (a : Option Addr) (c : Nat) (fs : List F) (nx cp : Int) (sg : Bool) (i : Nat) (w : World) (hv : FactsAt w a fs) (hc : fs.length ≤ c) (hl : fs.length ≤ 1048576) (hs : ∀ f ∈ fs, f.slots.length ≤ 1048576) (hi : i < fs.length) :
    Calls Try.prog 172 #[.agg #[.slice a fs.length c, .int .i64 nx, .int .i64 cp, .bool sg], .int .i64 i] w fun e w' =>
      (∃ a' c' xs, e = .returned (.agg #[.slice a' (fs.eraseIdx i).length c', .int .i64 nx, .int .i64 cp, .bool sg]) ∧ OFs w' w.heap.size (.slice a' (fs.eraseIdx i).length c') (fs.eraseIdx i).length (fs.eraseIdx i) xs) ∧ Below w.heap.size w w' := by
  have B2 : ∀ o o', Below w.heap.size w ((w.alloc o).alloc o') := fun o o' => ((Below.refl _ _).alloc (Nat.le_refl _) _).alloc (by simp) _
  have hz2 : w.heap.size < w.heap.size + 1 + 1 := by omega
  obtain ⟨f0, hf0⟩ : ∃ f, fs[i]? = some f := ⟨fs[i], by simp [hi]⟩
  obtain ⟨b, o, rfl, _⟩ := hv i f0 hf0
  have hvt := fun o' o'' => (hv.below (B2 o' o'')).take i
  have hlt : (fs.take i).length = i := by simp; omega
  go_enter Try.func172, Try.ntmps172
  go_wp2_with fail
  refine (copyFacts_len i _ c (fs.take i) _ hlt (hvt _ _) (by omega) (fun f hf => hs f (List.mem_of_mem_take hf))).mono ?_
  rintro e w1 ⟨⟨a1, c1, xs1, rfl, ho1⟩, hb1⟩
  obtain ⟨hc1, hf1⟩ := bcell hb1
  have hB1 : Below w.heap.size w w1 := (B2 _ _).trans (hb1.mono (by simp; omega))
  have hv1 := (hv.below hB1).drop (i + 1)
  have HO1 := hidden' ho1
  clear ho1
  have hzB : w.heap.size + 1 + 1 ≤ w1.heap.size := by have := hb1.size; simpa using this
  have hld : (fs.drop (i + 1)).length = fs.length - (i + 1) := by simp
  have hsd : ∀ f ∈ fs.drop (i + 1), f.slots.length ≤ 1048576 := fun f hf => hs f (List.mem_of_mem_drop hf)
  have he : fs.take i ++ fs.drop (i + 1) = fs.eraseIdx i := (List.eraseIdx_eq_take_drop_succ fs i).symm
  have hlen : i + (fs.length - (i + 1)) = (fs.eraseIdx i).length := by rw [List.length_eraseIdx, if_pos hi]; omega
  have HE := hidden' he
  have HL := hidden' hlen
  clear he hlen
  go_wp2_with fail
  all_goals
    refine (copyFacts_len (fs.length - (i + 1)) _ _ (fs.drop (i + 1)) w1 hld (by first | exact hv1 | (have : fs.drop (i + 1) = [] := List.drop_eq_nil_of_le (by omega); rw [this]; intro i f hf; simp at hf)) (by omega) hsd).mono ?_
    rintro e w2 ⟨⟨a2, c2, xs2, rfl, ho2⟩, hb2⟩
    obtain ⟨hc2, hf2⟩ := bcell hb2
    have h12 := HO1.out.below hb2
    have hB2 : Below w.heap.size w w2 := hB1.trans (hb2.mono hB1.size)
    have HO2 := hidden' ho2
    have H12 := hidden' h12
    have hz1 : w.heap.size < w1.heap.size := by omega
    have hz3 : w.heap.size + 1 < w1.heap.size := by omega
    have hz4 : w.heap.size + 1 + 1 ≤ w2.heap.size := Nat.le_trans hzB hb2.size
    have HR := hidden' (fun g (hg : InBlk (.slice a1 i c1) xs1 g) => (HO1.out.range hg).2)
    clear ho2 h12 HO1
    go_wp2_with (at_builtin; refine wpList_append_any (by rfl) (.tmp 11) (.tmp 17) 24 (by rfl) (w.heap.size + 1 + 1) 117 _ 3 48 Try.underlying24 infoF (by rfl) (by omega) _ i _ (by rfl) (owns_base H12.out.own (by simp)) a2 (fs.length - (i + 1)) c2 (by rfl) (frows (fs.drop (i + 1)) xs2) (by rw [frows_len _ _ HO2.out.len, hld]) HO2.out.nilp HO2.out.news HO2.out.one (by unfold maxLen; omega) (by omega) (by omega) ?_; intro a3 c3 w3 ho3 hg3 hl3; have hb3 : Below (w.heap.size + 1 + 1) w2 w3 := (Below.refl _ _).grown hg3.out hz4 (fun j hj => by have := (H12.out.own.lt j hj).1; simpa using this); obtain ⟨hc3, hf3⟩ := bcellB hb3)
    have hS := (H12.out.lower (base' := w.heap.size + 1 + 1) (by simp)).app HR.out HO2.out hzB ho3.out hg3.out hl3.out
    rw [HE.out, HL.out] at hS
    have hz5 : w.heap.size < w3.heap.size := by have := hb3.size; omega
    refine bodyPost_ret (v := .agg #[.slice a3 (fs.eraseIdx i).length c3, .int .i64 nx, .int .i64 cp, .bool sg]) (by simp [results, Try.results172, go_sem, hc1, hc2, hc3, hz3, HL.out]) rfl ⟨⟨a3, c3, xs1 ++ xs2, rfl, ?_⟩, ?_⟩
    · exact (((((hS.set (by simp; omega) _).set (by simp) _).set (by simp) _).set (by simp) _).set (by simp) _).lower (by omega)
    · have hB : Below w.heap.size w w3 := hB2.trans (hb3.mono (by omega))
      exact ((((hB.setCell (by simp) _).setCell (by simp) _).setCell (by simp) _).setCell (by simp) _).setCell (by simp) _
end Go.Proofs.Ytgamdkokmkagaaa
