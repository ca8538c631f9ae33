/-
  OUR OWN TEXT. Sp6, Sp7, one behind the other.
-/
import Derived.Test.YtgamdkokmkagaaaJs
import Derived.Test.YtgamdkokmkagaaaJo
namespace Go.Proofs.Ytgamdkokmkagaaa
open Go.RowKit
attribute [local go_sem ↓] Go.wp_at_zero Go.wp_at_succ

/-- The place of the first fact with the tag. -/
def fidx (tag : Int) : List F → Option Nat
  | [] => none
  | f :: r => if f.tag = tag then some 0 else (fidx tag r).map (· + 1)
def ixInt : Option Nat → Int
  | some i => i
  | none => -1

set_option maxHeartbeats 400000 in
theorem l1Find_any (a : Option Addr) (c : Nat) (fs : List F) (tag : Int) (w : World) (hv : FactsAt w a fs) (hl : fs.length ≤ 1048576) :
    Calls Try.prog 79 #[.slice a fs.length c, .int .i64 tag] w fun e w' => e = .returned (.int .i64 (ixInt (fidx tag fs))) ∧ w' = w := by
  go_enter Try.func79, Try.ntmps79
  go_wp2
  go_loop [8] (fun i => ∃ (k : Nat), k ≤ fs.length ∧ i = .int .i64 k ∧ fidx tag fs = (fidx tag (fs.drop k)).map (· + k)) (fun i => fs.length - (intOf i).toNat)
  case atStart => exact ⟨0, by omega, rfl, by simp⟩
  case round =>
    obtain ⟨k, hk, rfl, hG⟩ := hrel
    have HG := hidden' hG
    clear hG
    by_cases hkl : k < fs.length
    · obtain ⟨f, hfk⟩ : ∃ f, fs[k]? = some f := ⟨fs[k], by simp [hkl]⟩
      obtain ⟨b, o, rfl, c0, _, _, _, _, _⟩ := hv k f hfk
      have HD := hidden' (drop_cons hfk)
      cases ht : (f.tag == tag)
      · go_wp2
        go_round
        case rel =>
          refine ⟨k + 1, by omega, by go_num, ?_⟩
          rw [HG.out, HD.out, fidx, if_neg (by simpa using ht), Option.map_map]
          congr 1
          funext x
          simp
          omega
        case measure => simp [intOf]; omega
      · go_wp2
        go_ret
        refine ⟨ret_int ?_, rfl⟩
        rw [HG.out, HD.out, fidx, if_pos (by simpa using ht)]
        simp [ixInt]
    · go_wp2
      go_ret
      refine ⟨ret_int ?_, rfl⟩
      rw [HG.out, List.drop_eq_nil_of_le (by omega)]
      rfl

set_option maxHeartbeats 400000 in
theorem l1Copy_any (a : Option Addr) (c : Nat) (fs : List F) (nx cp : Int) (sg : Bool) (w : World) (hv : FactsAt w a fs) (hl : fs.length ≤ 1048576) (hs : ∀ f ∈ fs, f.slots.length ≤ 1048576) :
    Calls Try.prog 72 #[.agg #[.slice a fs.length c, .int .i64 nx, .int .i64 cp, .bool sg]] w fun e w' =>
      (∃ a' c' xs, e = .returned (.agg #[.slice a' fs.length c', .int .i64 nx, .int .i64 cp, .bool sg]) ∧ OFs w' w.heap.size (.slice a' fs.length c') fs.length fs xs) ∧ Below w.heap.size w w' := by
  have B2 : ∀ o o', Below w.heap.size w ((w.alloc o).alloc o') := fun o o' => ((Below.refl _ _).alloc (Nat.le_refl _) _).alloc (by simp) _
  go_enter Try.func72, Try.ntmps72
  go_wp2
  go_region_held3 (fun w' => w'.cell? ⟨w.heap.size, 0, none⟩ = some (.slice a fs.length c) ∧ w'.cell? ⟨w.heap.size, 1, none⟩ = some (.int .i64 nx) ∧ w'.cell? ⟨w.heap.size, 2, none⟩ = some (.int .i64 cp) ∧ w'.cell? ⟨w.heap.size, 3, none⟩ = some (.bool sg)) ((go_split_ands; refine ⟨?_, ?_, ?_, ?_⟩ <;> first | (simp [*, go_sem]; done) | exact cell_below hb1 (by simp [*, go_sem]) | (simp [World.cell?_setCell_other]; exact cell_below hb1 (by simp [*, go_sem]))))
    (first | (go_at_call 126; refine (l1Facts_any a c fs _ (hv.below ?_) hl hs).mono ?_; exact (B2 _ _).drew; rintro e w1 ⟨⟨a1, c1, xs, rfl, ho1⟩, hb1⟩; obtain ⟨hc, hf⟩ := bcell hb1))
  go_wp2
  refine bodyPost_ret (v := .agg #[.slice a1 fs.length c1, .int .i64 nx, .int .i64 cp, .bool sg]) (by simp [results, Try.results72, go_sem, hc]) rfl ⟨⟨a1, c1, xs, rfl, ?_⟩, ?_⟩
  · exact ((((ho1.set (by simp) _).set (by simp) _).set (by simp) _).set (by simp) _).lower (by simp; omega)
  · have hB : Below w.heap.size w w1 := (B2 _ _).drew.trans (hb1.mono (by simp; omega))
    exact (((hB.setCell (by simp) _).setCell (by simp) _).setCell (by simp) _).setCell (by simp) _

def noTag (tag : Int) (f : F) : Bool := f.tag != tag

/-- A row of facts of one's own, over slots that lie elsewhere. -/
structure RFs (Z : Nat → Prop) (w0 w : World) (v : Value) (n : Nat) (fs : List F) (xs : List Value) : Prop where
  num : n = fs.length
  len : xs.length = fs.length
  own : w.ownsRow w0.heap.size 117 3 v n (frows fs xs)
  each : ∀ (i : Nat) (f : F) (x : Value), fs[i]? = some f → xs[i]? = some x → ∃ a c, x = .slice a f.slots.length c ∧ ValsOn Z w0 a f.slots

theorem RFs.at {Z : Nat → Prop} {w0 w : World} {a : Option Addr} {n c : Nat} {fs : List F} {xs : List Value} (h : RFs Z w0 w (.slice a n c) n fs xs) (hb : Below w0.heap.size w0 w) : FactsOn (fun b => Z b ∨ (w0.heap.size ≤ b ∧ b < w.heap.size)) w a fs := by
  intro i f hf
  have hi : i < fs.length := (List.getElem?_eq_some_iff.1 hf).1
  have hx : xs[i]? = some (xs[i]'(by rw [h.len]; exact hi)) := List.getElem?_eq_getElem _
  obtain ⟨a', c', e, ho⟩ := h.each i f _ hf hx
  have key := fun j (hj : j < 3) => frows_at fs xs h.len i f _ hf hx j hj
  obtain ⟨g, rfl, _, h0, _⟩ := owns_cell h.own ((key 0 (by omega)).trans rfl)
  obtain ⟨g1, he1, _, h1, _⟩ := owns_cell h.own ((key 1 (by omega)).trans rfl)
  obtain ⟨g2, he2, _, h2, _⟩ := owns_cell h.own ((key 2 (by omega)).trans rfl)
  cases he1
  cases he2
  rw [e] at h2
  exact ⟨g, 0, .inr (h.own.lt g rfl), rfl, by simpa using h0, by simpa using h1, a', c', by simpa using h2, (ho.kept (fun b _ hlt => hb.block b hlt)).mono (fun b hz => .inl hz)⟩

theorem RFs.snoc {Z : Nat → Prop} {w0 w w' : World} {v v' : Value} {n : Nat} {fs : List F} {xs : List Value} {f : F} {x : Value} (h : RFs Z w0 w v n fs xs) (hx : ∃ a c, x = .slice a f.slots.length c ∧ ValsOn Z w0 a f.slots) (ho : w'.ownsRow w0.heap.size 117 3 v' (n + 1) (frows fs xs ++ fcells f x)) : RFs Z w0 w' v' (n + 1) (fs ++ [f]) (xs ++ [x]) := by
  refine ⟨by simp [h.num], by simp [h.len], by rw [frows_snoc fs xs h.len]; exact ho, ?_⟩
  intro i f' y hf hy
  by_cases hi : i < fs.length
  · rw [List.getElem?_append_left hi] at hf
    rw [List.getElem?_append_left (by rw [h.len]; exact hi)] at hy
    exact h.each i f' y hf hy
  · have hil : i < (fs ++ [f]).length := (List.getElem?_eq_some_iff.1 hf).1
    simp at hil
    obtain rfl : i = fs.length := by omega
    rw [List.getElem?_append_right (Nat.le_refl _)] at hf
    rw [List.getElem?_append_right (by rw [h.len]; exact Nat.le_refl _), h.len] at hy
    simp at hf hy
    subst hf
    subst hy
    exact hx

set_option maxHeartbeats 800000 in
theorem l1Without_any (Z : Nat → Prop) (a : Option Addr) (c : Nat) (fs : List F) (tag : Int) (w : World) (hvZ : FactsOn Z w a fs) (hl : fs.length ≤ 1048576) :
    Calls Try.prog 80 #[.slice a fs.length c, .int .i64 tag] w fun e w' =>
      (∃ a' c' xs, e = .returned (.slice a' (fs.filter (noTag tag)).length c') ∧ RFs Z w w' (.slice a' (fs.filter (noTag tag)).length c') (fs.filter (noTag tag)).length (fs.filter (noTag tag)) xs) ∧ Below w.heap.size w w' := by
  go_enter Try.func80, Try.ntmps80
  go_wp2
  go_loopw [5, 10] (fun v i wr => ∃ (k n : Nat) (a' : Option Addr) (c' : Nat) (xs : List Value), k ≤ fs.length ∧ n ≤ k ∧ i = .int .i64 k ∧ v = .slice a' n c' ∧ RFs Z w wr (.slice a' n c') n ((fs.take k).filter (noTag tag)) xs ∧ Below w.heap.size w wr) (fun _ i _ => fs.length - (intOf i).toNat)
  case atStart => exact ⟨0, 0, none, 0, [], by omega, by omega, rfl, rfl, ⟨rfl, rfl, World.ownsRow_nil _ _ _ _, fun i f x hf => by simp at hf⟩, Below.refl _ _⟩
  case round =>
    obtain ⟨k, n, a', c', xs, hk, hnk, rfl, rfl, ho, hb⟩ := hrel
    have HO := hidden' ho
    by_cases hkl : k < fs.length
    · obtain ⟨f, hfk⟩ : ∃ f, fs[k]? = some f := ⟨fs[k], by simp [hkl]⟩
      obtain ⟨b, o, _, rfl, e0, e1, s, cs, e2, hsl⟩ := hvZ k f hfk
      have c0 := cell_below hb e0
      have c1 := cell_below hb e1
      have c2 := cell_below hb e2
      have B1 : ∀ o, Below wr.heap.size wr (wr.alloc o) := fun o => (Below.refl _ _).alloc (Nat.le_refl _) _
      have hszw : w.heap.size ≤ wr.heap.size := hb.size
      clear ho hvZ e0 e1 e2
      cases ht : (f.tag != tag)
      · have HT : Hid ((fs.take (k + 1)).filter (noTag tag) = (fs.take k).filter (noTag tag)) := by
          show _ = _
          rw [take_succ' fs k f hfk, List.filter_append]
          simp [noTag, ht]
        go_wp2
        go_roundw
        case rel => exact ⟨k + 1, n, a', c', xs, by omega, by omega, by go_num, rfl, by rw [HT.out]; exact ⟨HO.out.num, HO.out.len, HO.out.own.alloc _, HO.out.each⟩, hb.alloc hszw _⟩
        case measure => simp [intOf]; omega
      · have HT : Hid ((fs.take (k + 1)).filter (noTag tag) = (fs.take k).filter (noTag tag) ++ [f]) := by
          show _ = _
          rw [take_succ' fs k f hfk, List.filter_append]
          simp [noTag, ht]
        go_wp2_with (at_builtin; refine wpList_append_any (by rfl) (.tmp 18) (.tmp 20) 24 (by rfl) w.heap.size 117 _ 3 48 Try.underlying24 infoF (by rfl) (by omega) _ n _ (by rfl) ((HO.out.own.alloc _).alloc _) (some ⟨wr.heap.size + 1, 0, none⟩) 1 1 (by rfl) (fcells f (.slice s f.slots.length cs)) (by rfl) (fun e => by cases e) (by rw [← World.size_alloc]; exact news_alloc _ _ _) (fcells_one _ _ _ _) (by unfold maxLen; omega) (by omega) (by simp; omega) ?_; intro a2 c2' w2 ho2 hg2 hl2)
        have hS := HO.out.snoc (w' := w2) ⟨s, cs, rfl, hsl⟩ ho2.out
        go_roundw
        case rel =>
          rw [← HT.out] at hS
          exact ⟨k + 1, n + 1, a2, c2', _, by omega, by omega, by go_num, rfl, hS, ((hb.alloc hszw _).alloc (by simp; omega) _).grown hg2.out (by simp; omega) (fun j hj => (HO.out.own.lt j hj).1)⟩
        case measure => simp [intOf]; omega
    · go_wp2
      go_ret
      obtain rfl : k = fs.length := by omega
      rw [List.take_of_length_le (Nat.le_refl _)] at ho
      obtain rfl := ho.num
      exact ⟨⟨a', c', xs, rfl, ho⟩, hb⟩
end Go.Proofs.Ytgamdkokmkagaaa

namespace Go.Proofs.Ytgamdkokmkagaaa
open Go.RowKit

/-- A change, as plain data. -/
structure C6 where
  fs : List F
  nx : Int
  cp : Int
  sg : Bool
  code : Int
  tag : Int
def C6.bad : C6 := ⟨[], 0, 0, false, 1, 0⟩
def C6.val (r : C6) (a : Option Addr) (c : Nat) : Value := .agg #[.slice a r.fs.length c, .int .i64 r.nx, .int .i64 r.cp, .bool r.sg, .int .i64 r.code, .int .i64 r.tag]

def retr (fs : List F) (nx cp : Int) (sg : Bool) (tag : Int) : C6 :=
  if sValid fs nx cp sg then (match fidx tag fs with | none => ⟨fs, nx, cp, sg, 5, 0⟩ | some i => ⟨fs.eraseIdx i, nx, cp, sg, 0, tag⟩) else C6.bad

theorem retr_bad {fs : List F} {nx cp : Int} {sg : Bool} {tag : Int} (h : sValid fs nx cp sg = false) : retr fs nx cp sg tag = C6.bad := by unfold retr; rw [h]; rfl
theorem retr_none {fs : List F} {nx cp : Int} {sg : Bool} {tag : Int} (h : sValid fs nx cp sg = true) (hi : fidx tag fs = none) : retr fs nx cp sg tag = ⟨fs, nx, cp, sg, 5, 0⟩ := by unfold retr; rw [h, hi]; rfl
theorem retr_some {fs : List F} {nx cp : Int} {sg : Bool} {tag : Int} {i : Nat} (h : sValid fs nx cp sg = true) (hi : fidx tag fs = some i) : retr fs nx cp sg tag = ⟨fs.eraseIdx i, nx, cp, sg, 0, tag⟩ := by unfold retr; rw [h, hi]; rfl

theorem gFrom_lt {last : Int} : ∀ {fs : List F}, gFrom last fs = true → ∀ f ∈ fs, last < f.tag
  | [], _, f, hf => by simp at hf
  | g :: r, h, f, hf => by
    simp only [gFrom, okF, Bool.and_eq_true, decide_eq_true_eq] at h
    rcases List.mem_cons.1 hf with rfl | hm
    · exact h.1.1
    · have := gFrom_lt h.2 f hm
      omega

theorem filter_erase {tag : Int} : ∀ {fs : List F} {last : Int} {i : Nat}, gFrom last fs = true → fidx tag fs = some i → fs.filter (noTag tag) = fs.eraseIdx i
  | [], _, _, _, h => by simp [fidx] at h
  | f :: r, last, i, hg, h => by
    have hg2 : gFrom f.tag r = true := by simp only [gFrom, Bool.and_eq_true] at hg; exact hg.2
    unfold fidx at h
    by_cases ht : f.tag = tag
    · rw [if_pos ht] at h
      cases h
      rw [List.filter_cons, List.eraseIdx_zero]
      have : noTag tag f = false := by simp [noTag, ht]
      rw [this]
      simp only [Bool.false_eq_true, if_false, List.tail_cons]
      rw [List.filter_eq_self]
      intro g hgm
      have := gFrom_lt hg2 g hgm
      simp [noTag]
      omega
    · rw [if_neg ht] at h
      obtain ⟨j, hj, rfl⟩ := Option.map_eq_some_iff.1 h
      rw [List.filter_cons, List.eraseIdx_cons_succ]
      have : noTag tag f = true := by simp [noTag, ht]
      rw [this, if_pos rfl, filter_erase hg2 hj]

theorem sValid_from {fs : List F} {nx cp : Int} {sg : Bool} (h : sValid fs nx cp sg = true) : gFrom 0 fs = true := by
  simp only [sValid, sHead, gFacts, Bool.and_eq_true] at h
  exact h.1.2.2.2.1.2

theorem fidx_lt {tag : Int} : ∀ {fs : List F} {i : Nat}, fidx tag fs = some i → i < fs.length
  | [], _, h => by simp [fidx] at h
  | f :: r, i, h => by
    unfold fidx at h
    split at h
    · cases h; simp
    · obtain ⟨j, hj, rfl⟩ := Option.map_eq_some_iff.1 h
      have := fidx_lt hj
      simp
      omega

set_option maxHeartbeats 800000 in
theorem sRetract_cap (a : Option Addr) (c : Nat) (fs : List F) (nx cp : Int) (sg : Bool) (tag : Int) (w : World) (hv : FactsAt w a fs) (hc : fs.length ≤ c) (hl : fs.length ≤ 1048576) (hs : ∀ f ∈ fs, Sized f) :
    Calls Try.prog 32 #[.agg #[.slice a fs.length c, .int .i64 nx, .int .i64 cp, .bool sg], .int .i64 tag] w fun e w' =>
      (∃ a' c', e = .returned ((retr fs nx cp sg tag).val a' c') ∧ FactsAt w' a' (retr fs nx cp sg tag).fs ∧ (retr fs nx cp sg tag).fs.length ≤ c') ∧ Below w.heap.size w w' := by
  have B2 : ∀ o o', Below w.heap.size w ((w.alloc o).alloc o') := fun o o' => ((Below.refl _ _).alloc (Nat.le_refl _) _).alloc (by simp) _
  have hz2 : w.heap.size < w.heap.size + 1 + 1 := by omega
  have hsl : ∀ f ∈ fs, f.slots.length ≤ 1048576 := fun f hf => (hs f hf).2.1
  cases hva : sValid fs nx cp sg
  · rw [retr_bad hva]
    go_enter Try.func32, Try.ntmps32
    go_wp2_with (go_at_call 20; refine (sStoreValid_any a c fs nx cp sg _ (hv.below (B2 _ _)) hc hl hs).mono ?_; rintro e w1 ⟨rfl, hb1⟩; obtain ⟨hc1, hf1⟩ := bcell hb1)
    refine bodyPost_ret (v := C6.bad.val none 0) (by simp [results, Try.results32, go_sem, hc1, C6.val, C6.bad]) rfl ⟨⟨none, 0, rfl, fun i f hf => by simp [C6.bad] at hf, Nat.zero_le _⟩, ?_⟩
    have hB : Below w.heap.size w w1 := (B2 _ _).trans (hb1.mono (by simp; omega))
    exact (((((hB.setCell (by simp) _).setCell (by simp) _).setCell (by simp) _).setCell (by simp) _).setCell (by simp) _).setCell (by simp) _
  · cases hi : fidx tag fs with
    | none =>
      rw [retr_none hva hi]
      have hix : ixInt (fidx tag fs) = -1 := by rw [hi]; rfl
      clear hi
      go_enter Try.func32, Try.ntmps32
      go_wp2_with (go_at_call 20; refine (sStoreValid_any a c fs nx cp sg _ (hv.below (B2 _ _)) hc hl hs).mono ?_; rintro e w1 ⟨rfl, hb1⟩; obtain ⟨hc1, hf1⟩ := bcell hb1)
      have hW1 : Below w.heap.size w w1 := (B2 _ _).trans (hb1.mono (by simp; omega))
      have hz1 : w.heap.size + 1 < w1.heap.size := by have := hb1.size; simp at this; omega
      refine (l1Copy_any a c fs nx cp sg w1 (hv.below hW1) hl hsl).mono ?_
      rintro e w2 ⟨⟨a2, c2, xs2, rfl, ho2⟩, hb2⟩
      have hW2 : Below w.heap.size w w2 := hW1.trans (hb2.mono hW1.size)
      obtain ⟨hc2, hf2⟩ := bcell hb2
      have hz2' : w.heap.size + 1 < w2.heap.size := Nat.lt_of_lt_of_le hz1 hb2.size
      have hz3' : w.heap.size < w2.heap.size := by omega
      have hz4' : w.heap.size < w1.heap.size := by omega
      have hv2 := hv.below hW2
      go_wp2_with (go_at_call 79; refine (l1Find_any a c fs tag _ (hv2.below ?_) hl).mono ?_; exact (Below.refl _ _).alloc (Nat.le_refl _) _; rintro e w3 ⟨rfl, rfl⟩)
      refine bodyPost_ret (v := C6.val ⟨fs, nx, cp, sg, 5, 0⟩ a2 c2) (by simp [results, Try.results32, go_sem, hc1, hc2, C6.val, hz1, hz2']) rfl ⟨⟨a2, c2, rfl, ?_, own_cap ho2.own⟩, ?_⟩
      · exact (((((((ho2.set (by simp; omega) _).set (by simp; omega) _).set (by simp; omega) _).set (by simp; omega) _).set (by simp; omega) _).set (by simp; omega) _).allocd _).at
      · exact ((((((hW2.setCell (by simp) _).setCell (by simp) _).setCell (by simp) _).setCell (by simp) _).setCell (by simp) _).setCell (by simp) _).alloc (by simp [World.setCell]; omega) _
    | some i =>
      rw [retr_some hva hi]
      have hfe := filter_erase (sValid_from hva) hi
      have hix : ixInt (fidx tag fs) = (i : Int) := by rw [hi]; rfl
      have HFE := hidden' hfe
      clear hi hfe
      go_enter Try.func32, Try.ntmps32
      go_wp2_with (go_at_call 20; refine (sStoreValid_any a c fs nx cp sg _ (hv.below (B2 _ _)) hc hl hs).mono ?_; rintro e w1 ⟨rfl, hb1⟩; obtain ⟨hc1, hf1⟩ := bcell hb1)
      have hW1 : Below w.heap.size w w1 := (B2 _ _).trans (hb1.mono (by simp; omega))
      have hz1 : w.heap.size + 1 < w1.heap.size := by have := hb1.size; simp at this; omega
      refine (l1Copy_any a c fs nx cp sg w1 (hv.below hW1) hl hsl).mono ?_
      rintro e w2 ⟨⟨a2, c2, xs2, rfl, ho2⟩, hb2⟩
      have hW2 : Below w.heap.size w w2 := hW1.trans (hb2.mono hW1.size)
      obtain ⟨hc2, hf2⟩ := bcell hb2
      have hz2' : w.heap.size + 1 < w2.heap.size := Nat.lt_of_lt_of_le hz1 hb2.size
      have hz3' : w.heap.size < w2.heap.size := by omega
      have hz4' : w.heap.size < w1.heap.size := by omega
      have hv2 := hv.below hW2
      have hZ := fun o => (ho2.on.kept (w' := w2.alloc o) (fun b _ hlt => Below.heap_alloc _ _ _ hlt))
      go_wp2_with (first | (go_at_call 79; refine (l1Find_any a c fs tag _ (hv2.below ?_) hl).mono ?_; exact (Below.refl _ _).alloc (Nat.le_refl _) _; rintro e w3 ⟨rfl, rfl⟩) | (go_at_call 80; refine (l1Without_any _ a2 c2 fs tag _ (hZ _) hl).mono ?_; rintro e w4 ⟨⟨a4, c4, xs4, rfl, ho4⟩, hb4⟩; obtain ⟨hc4, hf4⟩ := bcell hb4))
      rw [HFE.out] at ho4
      have hz5 : w2.heap.size < w4.heap.size := by have := hb4.size; simp at this; omega
      have hz6 : w.heap.size + 1 < w4.heap.size := by omega
      have hE := hidden' (ho4.at hb4)
      have hcap4 := hidden' (own_cap ho4.own)
      clear ho4
      have hz7 : w.heap.size + 1 < w2.heap.size + 1 := by omega
      have hz8 : ¬ w.heap.size + 1 = w2.heap.size := by omega
      have hz9 : ¬ w2.heap.size = w.heap.size + 1 := by omega
      refine bodyPost_ret (v := C6.val ⟨fs.eraseIdx i, nx, cp, sg, 0, tag⟩ a4 c4) (by simp [results, Try.results32, go_sem, hc1, hc2, hc4, C6.val, hz1, hz2', hz7, HFE.out]) rfl ⟨⟨a4, c4, rfl, ?_, hcap4.out⟩, ?_⟩
      · refine (hE.out.kept ?_).at
        intro b hz hlt
        have hne1 : b ≠ w2.heap.size := by simp at hz hlt; omega
        have hne2 : b ≠ w.heap.size + 1 := by simp at hz hlt; omega
        have k1 : ∀ (v : World) o u, (v.setCell ⟨w2.heap.size, o, none⟩ u).heap[b]? = v.heap[b]? := fun v o u => Below.heap_setCell _ _ _ _ hne1
        have k2 : ∀ (v : World) o u, (v.setCell ⟨w.heap.size + 1, o, none⟩ u).heap[b]? = v.heap[b]? := fun v o u => Below.heap_setCell _ _ _ _ hne2
        simp only [k1, k2]
      · have hB4 : Below w.heap.size w w4 := (hW2.alloc (by omega) _).trans (hb4.mono (by simp; omega))
        exact ((((((hB4.setCell (by simp; omega) _).setCell (by simp) _).setCell (by simp) _).setCell (by simp) _).setCell (by simp) _).setCell (by simp) _).setCell (by simp) _
theorem sRetract_any (a : Option Addr) (c : Nat) (fs : List F) (nx cp : Int) (sg : Bool) (tag : Int) (w : World) (hv : FactsAt w a fs) (hc : fs.length ≤ c) (hl : fs.length ≤ 1048576) (hs : ∀ f ∈ fs, Sized f) :
    Calls Try.prog 32 #[.agg #[.slice a fs.length c, .int .i64 nx, .int .i64 cp, .bool sg], .int .i64 tag] w fun e w' =>
      (∃ a' c', e = .returned ((retr fs nx cp sg tag).val a' c') ∧ FactsAt w' a' (retr fs nx cp sg tag).fs) ∧ Below w.heap.size w w' :=
  (sRetract_cap a c fs nx cp sg tag w hv hc hl hs).mono fun _ _ ⟨⟨a', c', h1, h2, _⟩, h3⟩ => ⟨⟨a', c', h1, h2⟩, h3⟩
end Go.Proofs.Ytgamdkokmkagaaa
