/-
  OUR OWN TEXT. The model's copies, finds and leavings-out.
-/
import Derived.Test.YtlkfmbpbgnhcjabCpy
import Derived.Test.YtlkfmbpbgnhcjabSpec5
namespace Go.Proofs.Ytlkfmbpbgnhcjab
open Go.RowKit
attribute [local go_sem ↓] Go.wp_at_zero Go.wp_at_succ

/-- The place of the first fact with the tag. -/
def fidx (tag : Int) : List F → Option Nat
  | [] => none
  | f :: r => if f.tag = tag then some 0 else (fidx tag r).map (· + 1)
def ixInt : Option Nat → Int
  | some i => i
  | none => -1

set_option maxHeartbeats 400000 in
theorem l1Find_any (a : Option Addr) (c : Nat) (fs : List F) (tag : Int) (w : World) (hv : FactsAt w a fs) (hl : fs.length ≤ 1048576) :
    Calls Try.prog 62 #[.slice a fs.length c, .int .i64 tag] w fun e w' => e = .returned (.int .i64 (ixInt (fidx tag fs))) ∧ w' = w := by
  go_enter Try.func62, Try.ntmps62
  go_wp2
  go_loop [8] (fun i => ∃ (k : Nat), k ≤ fs.length ∧ i = .int .i64 k ∧ fidx tag fs = (fidx tag (fs.drop k)).map (· + k)) (fun i => fs.length - (intOf i).toNat)
  case atStart => exact ⟨0, by omega, rfl, by simp⟩
  case round =>
    obtain ⟨k, hk, rfl, hG⟩ := hrel
    have HG := hidden' hG
    clear hG
    by_cases hkl : k < fs.length
    · obtain ⟨f, hfk⟩ : ∃ f, fs[k]? = some f := ⟨fs[k], by simp [hkl]⟩
      obtain ⟨b, o, rfl, c0, _, _, _, _, _⟩ := hv k f hfk
      have HD := hidden' (drop_cons hfk)
      cases ht : (f.tag == tag)
      · go_wp2
        go_round
        case rel =>
          refine ⟨k + 1, by omega, by go_num, ?_⟩
          rw [HG.out, HD.out, fidx, if_neg (by simpa using ht), Option.map_map]
          congr 1
          funext x
          simp
          omega
        case measure => simp [intOf]; omega
      · go_wp2
        go_ret
        refine ⟨ret_int ?_, rfl⟩
        rw [HG.out, HD.out, fidx, if_pos (by simpa using ht)]
        simp [ixInt]
    · go_wp2
      go_ret
      refine ⟨ret_int ?_, rfl⟩
      rw [HG.out, List.drop_eq_nil_of_le (by omega)]
      rfl

set_option maxHeartbeats 400000 in
theorem l1Copy_any (a : Option Addr) (c : Nat) (fs : List F) (nx cp : Int) (sg : Bool) (w : World) (hv : FactsAt w a fs) (hl : fs.length ≤ 1048576) (hs : ∀ f ∈ fs, f.slots.length ≤ 1048576) :
    Calls Try.prog 54 #[.agg #[.slice a fs.length c, .int .i64 nx, .int .i64 cp, .bool sg]] w fun e w' =>
      (∃ a' c' xs, e = .returned (.agg #[.slice a' fs.length c', .int .i64 nx, .int .i64 cp, .bool sg]) ∧ OFs w' w.heap.size (.slice a' fs.length c') fs.length fs xs) ∧ Below w.heap.size w w' := by
  have B2 : ∀ o o', Below w.heap.size w ((w.alloc o).alloc o') := fun o o' => ((Below.refl _ _).alloc (Nat.le_refl _) _).alloc (by simp) _
  go_enter Try.func54, Try.ntmps54
  go_wp2
  go_region_held3 (fun w' => w'.cell? ⟨w.heap.size, 0, none⟩ = some (.slice a fs.length c) ∧ w'.cell? ⟨w.heap.size, 1, none⟩ = some (.int .i64 nx) ∧ w'.cell? ⟨w.heap.size, 2, none⟩ = some (.int .i64 cp) ∧ w'.cell? ⟨w.heap.size, 3, none⟩ = some (.bool sg)) ((go_split_ands; refine ⟨?_, ?_, ?_, ?_⟩ <;> first | (simp [*, go_sem]; done) | exact cell_below hb1 (by simp [*, go_sem]) | (simp [World.cell?_setCell_other]; exact cell_below hb1 (by simp [*, go_sem]))))
    (first | (go_at_call 89; refine (l1Facts_any a c fs _ (hv.below ?_) hl hs).mono ?_; exact (B2 _ _).drew; rintro e w1 ⟨⟨a1, c1, xs, rfl, ho1⟩, hb1⟩; obtain ⟨hc, hf⟩ := bcell hb1))
  go_wp2
  refine bodyPost_ret (v := .agg #[.slice a1 fs.length c1, .int .i64 nx, .int .i64 cp, .bool sg]) (by simp [results, Try.results54, go_sem, hc]) rfl ⟨⟨a1, c1, xs, rfl, ?_⟩, ?_⟩
  · exact ((((ho1.set (by simp) _).set (by simp) _).set (by simp) _).set (by simp) _).lower (by simp; omega)
  · have hB : Below w.heap.size w w1 := (B2 _ _).drew.trans (hb1.mono (by simp; omega))
    exact (((hB.setCell (by simp) _).setCell (by simp) _).setCell (by simp) _).setCell (by simp) _

def noTag (tag : Int) (f : F) : Bool := f.tag != tag

/-- A row of facts of one's own, over slots that lie elsewhere. -/
structure RFs (Z : Nat → Prop) (w0 w : World) (v : Value) (n : Nat) (fs : List F) (xs : List Value) : Prop where
  num : n = fs.length
  len : xs.length = fs.length
  own : w.ownsRow w0.heap.size 81 3 v n (frows fs xs)
  each : ∀ (i : Nat) (f : F) (x : Value), fs[i]? = some f → xs[i]? = some x → ∃ a c, x = .slice a f.slots.length c ∧ ValsOn Z w0 a f.slots

theorem RFs.at {Z : Nat → Prop} {w0 w : World} {a : Option Addr} {n c : Nat} {fs : List F} {xs : List Value} (h : RFs Z w0 w (.slice a n c) n fs xs) (hb : Below w0.heap.size w0 w) : FactsOn (fun b => Z b ∨ (w0.heap.size ≤ b ∧ b < w.heap.size)) w a fs := by
  intro i f hf
  have hi : i < fs.length := (List.getElem?_eq_some_iff.1 hf).1
  have hx : xs[i]? = some (xs[i]'(by rw [h.len]; exact hi)) := List.getElem?_eq_getElem _
  obtain ⟨a', c', e, ho⟩ := h.each i f _ hf hx
  have key := fun j (hj : j < 3) => frows_at fs xs h.len i f _ hf hx j hj
  obtain ⟨g, rfl, _, h0, _⟩ := owns_cell h.own ((key 0 (by omega)).trans rfl)
  obtain ⟨g1, he1, _, h1, _⟩ := owns_cell h.own ((key 1 (by omega)).trans rfl)
  obtain ⟨g2, he2, _, h2, _⟩ := owns_cell h.own ((key 2 (by omega)).trans rfl)
  cases he1
  cases he2
  rw [e] at h2
  exact ⟨g, 0, .inr (h.own.lt g rfl), rfl, by simpa using h0, by simpa using h1, a', c', by simpa using h2, (ho.kept (fun b _ hlt => hb.block b hlt)).mono (fun b hz => .inl hz)⟩

theorem RFs.snoc {Z : Nat → Prop} {w0 w w' : World} {v v' : Value} {n : Nat} {fs : List F} {xs : List Value} {f : F} {x : Value} (h : RFs Z w0 w v n fs xs) (hx : ∃ a c, x = .slice a f.slots.length c ∧ ValsOn Z w0 a f.slots) (ho : w'.ownsRow w0.heap.size 81 3 v' (n + 1) (frows fs xs ++ fcells f x)) : RFs Z w0 w' v' (n + 1) (fs ++ [f]) (xs ++ [x]) := by
  refine ⟨by simp [h.num], by simp [h.len], by rw [frows_snoc fs xs h.len]; exact ho, ?_⟩
  intro i f' y hf hy
  by_cases hi : i < fs.length
  · rw [List.getElem?_append_left hi] at hf
    rw [List.getElem?_append_left (by rw [h.len]; exact hi)] at hy
    exact h.each i f' y hf hy
  · have hil : i < (fs ++ [f]).length := (List.getElem?_eq_some_iff.1 hf).1
    simp at hil
    obtain rfl : i = fs.length := by omega
    rw [List.getElem?_append_right (Nat.le_refl _)] at hf
    rw [List.getElem?_append_right (by rw [h.len]; exact Nat.le_refl _), h.len] at hy
    simp at hf hy
    subst hf
    subst hy
    exact hx

set_option maxHeartbeats 800000 in
theorem l1Without_any (Z : Nat → Prop) (a : Option Addr) (c : Nat) (fs : List F) (tag : Int) (w : World) (hvZ : FactsOn Z w a fs) (hl : fs.length ≤ 1048576) :
    Calls Try.prog 63 #[.slice a fs.length c, .int .i64 tag] w fun e w' =>
      (∃ a' c' xs, e = .returned (.slice a' (fs.filter (noTag tag)).length c') ∧ RFs Z w w' (.slice a' (fs.filter (noTag tag)).length c') (fs.filter (noTag tag)).length (fs.filter (noTag tag)) xs) ∧ Below w.heap.size w w' := by
  go_enter Try.func63, Try.ntmps63
  go_wp2
  go_loopw [5, 10] (fun v i wr => ∃ (k n : Nat) (a' : Option Addr) (c' : Nat) (xs : List Value), k ≤ fs.length ∧ n ≤ k ∧ i = .int .i64 k ∧ v = .slice a' n c' ∧ RFs Z w wr (.slice a' n c') n ((fs.take k).filter (noTag tag)) xs ∧ Below w.heap.size w wr) (fun _ i _ => fs.length - (intOf i).toNat)
  case atStart => exact ⟨0, 0, none, 0, [], by omega, by omega, rfl, rfl, ⟨rfl, rfl, World.ownsRow_nil _ _ _ _, fun i f x hf => by simp at hf⟩, Below.refl _ _⟩
  case round =>
    obtain ⟨k, n, a', c', xs, hk, hnk, rfl, rfl, ho, hb⟩ := hrel
    have HO := hidden' ho
    by_cases hkl : k < fs.length
    · obtain ⟨f, hfk⟩ : ∃ f, fs[k]? = some f := ⟨fs[k], by simp [hkl]⟩
      obtain ⟨b, o, _, rfl, e0, e1, s, cs, e2, hsl⟩ := hvZ k f hfk
      have c0 := cell_below hb e0
      have c1 := cell_below hb e1
      have c2 := cell_below hb e2
      have B1 : ∀ o, Below wr.heap.size wr (wr.alloc o) := fun o => (Below.refl _ _).alloc (Nat.le_refl _) _
      have hszw : w.heap.size ≤ wr.heap.size := hb.size
      clear ho hvZ e0 e1 e2
      cases ht : (f.tag != tag)
      · have HT : Hid ((fs.take (k + 1)).filter (noTag tag) = (fs.take k).filter (noTag tag)) := by
          show _ = _
          rw [take_succ' fs k f hfk, List.filter_append]
          simp [noTag, ht]
        go_wp2
        go_roundw
        case rel => exact ⟨k + 1, n, a', c', xs, by omega, by omega, by go_num, rfl, by rw [HT.out]; exact ⟨HO.out.num, HO.out.len, HO.out.own.alloc _, HO.out.each⟩, hb.alloc hszw _⟩
        case measure => simp [intOf]; omega
      · have HT : Hid ((fs.take (k + 1)).filter (noTag tag) = (fs.take k).filter (noTag tag) ++ [f]) := by
          show _ = _
          rw [take_succ' fs k f hfk, List.filter_append]
          simp [noTag, ht]
        go_wp2_with (at_builtin; refine wpList_append_any (by rfl) (.tmp 18) (.tmp 20) 24 (by rfl) w.heap.size 81 _ 3 48 Try.underlying24 infoF (by rfl) (by omega) _ n _ (by rfl) ((HO.out.own.alloc _).alloc _) (some ⟨wr.heap.size + 1, 0, none⟩) 1 1 (by rfl) (fcells f (.slice s f.slots.length cs)) (by rfl) (fun e => by cases e) (by rw [← World.size_alloc]; exact news_alloc _ _ _) (fcells_one _ _ _ _) (by unfold maxLen; omega) (by omega) (by simp; omega) ?_; intro a2 c2' w2 ho2 hg2 hl2)
        have hS := HO.out.snoc (w' := w2) ⟨s, cs, rfl, hsl⟩ ho2.out
        go_roundw
        case rel =>
          rw [← HT.out] at hS
          exact ⟨k + 1, n + 1, a2, c2', _, by omega, by omega, by go_num, rfl, hS, ((hb.alloc hszw _).alloc (by simp; omega) _).grown hg2.out (by simp; omega) (fun j hj => (HO.out.own.lt j hj).1)⟩
        case measure => simp [intOf]; omega
    · go_wp2
      go_ret
      obtain rfl : k = fs.length := by omega
      rw [List.take_of_length_le (Nat.le_refl _)] at ho
      obtain rfl := ho.num
      exact ⟨⟨a', c', xs, rfl, ho⟩, hb⟩
end Go.Proofs.Ytlkfmbpbgnhcjab
