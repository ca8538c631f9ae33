/-
  OUR OWN TEXT. Sz1, To1, Eq1, Sv4, one behind the other.
-/
import Derived.Test.YtognpkdgphebeaaGreatKd
import Derived.Test.YtognpkdgphebeaaGreatOa
import Derived.Test.YtognpkdgphebeaaGreatKf
import Derived.Test.YtognpkdgphebeaaGreatKe
import Derived.Deep.RegionHeld3
import Derived.Deep.DrawnRows
import Derived.Test.YtognpkdgphebeaaGreatUj
namespace Go.Proofs.YtognpkdgphebeaaGreat
open Go.RowKit

set_option maxHeartbeats 400000 in
theorem szValueS_any (a : Option Addr) (c : Nat) (vs : List V) (left : Int) (w : World) (hv : ValsAt w a vs) (hl : vs.length ≤ maxLen) (hs : ∀ v ∈ vs, v.sym.size ≤ maxLen) (h0 : 0 ≤ left) (h1 : left ≤ 1048576) :
    Calls Tryz.prog 69 #[.slice a vs.length c, .int .i64 left] w fun e w' =>
      (∃ r : Int, e = .returned (.int .i64 r) ∧ Left r left (szVs vs)) ∧ Below w.heap.size w w' := by
  unfold maxLen at hl
  by_cases hlt : left < vs.length
  · go_enter Tryz.func69, Tryz.ntmps69
    go_wp2
    go_ret
    exact ⟨⟨-1, rfl, .inl rfl⟩, Below.refl _ _⟩
  · go_enter Tryz.func69, Tryz.ntmps69
    go_wp2
    go_loopw [1, 5] (fun l i wr => ∃ (k : Nat) (r : Int), k ≤ vs.length ∧ i = .int .i64 k ∧ l = .int .i64 r ∧ 0 ≤ r ∧ r + vs.length + ((vs.take k).map szV).sum ≤ left ∧ Below w.heap.size w wr) (fun _ i _ => vs.length - (intOf i).toNat)
    case atStart => exact ⟨0, _, by omega, rfl, rfl, by omega, by simp, Below.refl _ _⟩
    case round =>
      obtain ⟨k, r, hk, rfl, rfl, hr0, hr1, hb⟩ := hrel
      by_cases hkl : k < vs.length
      · obtain ⟨v, hvk⟩ : ∃ v, vs[k]? = some v := ⟨vs[k], by simp [hkl]⟩
        obtain ⟨b, o, rfl, c0, c1, c2⟩ := hv.below hb k v hvk
        have hz := sum_take_succ szV vs k v hvk
        have HZ : Hid (((vs.take (k + 1)).map szV).sum = ((vs.take k).map szV).sum + szV v) := hz
        have hsv : v.sym.size ≤ maxLen := hs v (List.mem_of_getElem? hvk)
        clear hz
        go_wp2_with (go_at_call 99; refine (szValue_any v _ _ hsv (by omega) (by omega)).mono ?_; rintro e w' ⟨⟨r', rfl, hr'⟩, hb'⟩)
        · go_ret
          exact ⟨⟨-1, rfl, .inl rfl⟩, hb.trans (hb'.mono hb.size)⟩
        · go_roundw
          case rel =>
            refine ⟨k + 1, r', by omega, by go_num, rfl, by assumption, ?_, hb.trans (hb'.mono hb.size)⟩
            rw [HZ.out]
            rcases hr' with h | ⟨_, h⟩ <;> omega
          case measure => simp [intOf]; omega
      · go_wp2
        go_ret
        refine ⟨⟨r, rfl, .inr ⟨hr0, ?_⟩⟩, hb⟩
        rw [List.take_of_length_le (by omega)] at hr1
        unfold szVs
        omega

set_option maxHeartbeats 400000 in
theorem szFact_any (f : F) (a : Option Addr) (c : Nat) (left : Int) (w : World) (hv : ValsAt w a f.slots) (hc : f.cls.size ≤ maxLen) (hl : f.slots.length ≤ maxLen) (hs : ∀ v ∈ f.slots, v.sym.size ≤ maxLen) (h0 : 0 ≤ left) (h1 : left ≤ 1048576) :
    Calls Tryz.prog 39 #[.agg #[.int .i64 f.tag, .string f.cls, .slice a f.slots.length c], .int .i64 left] w fun e w' =>
      (∃ r : Int, e = .returned (.int .i64 r) ∧ Left r left (szF f)) ∧ Below w.heap.size w w' := by
  unfold maxLen at hc
  by_cases hlt : left < f.cls.size
  · go_enter Tryz.func39, Tryz.ntmps39
    go_wp2
    go_ret
    exact ⟨⟨-1, rfl, .inl rfl⟩, (Below.refl _ _).alloc (Nat.le_refl _) _⟩
  · go_enter Tryz.func39, Tryz.ntmps39
    have B1 : ∀ o, Below w.heap.size w (w.alloc o) := fun o => (Below.refl _ _).alloc (Nat.le_refl _) _
    go_wp2_with (go_at_call 69; refine (szValueS_any a c f.slots _ _ (hv.below (B1 _)) hl hs (by omega) (by omega)).mono ?_; rintro e w' ⟨⟨r', rfl, hr'⟩, hb'⟩)
    · go_ret
      exact ⟨⟨-1, rfl, .inl rfl⟩, (B1 _).trans (hb'.mono (by simp))⟩
    · go_ret
      refine ⟨⟨r', rfl, .inr ⟨by assumption, ?_⟩⟩, (B1 _).trans (hb'.mono (by simp))⟩
      unfold szF
      rcases hr' with h | ⟨_, h⟩ <;> omega

set_option maxHeartbeats 400000 in
theorem szFactS_any (a : Option Addr) (c : Nat) (fs : List F) (left : Int) (w : World) (hv : FactsAt w a fs) (hl : fs.length ≤ maxLen) (hs : ∀ f ∈ fs, f.cls.size ≤ maxLen ∧ f.slots.length ≤ maxLen ∧ ∀ v ∈ f.slots, v.sym.size ≤ maxLen) (h0 : 0 ≤ left) (h1 : left ≤ 1048576) :
    Calls Tryz.prog 8 #[.slice a fs.length c, .int .i64 left] w fun e w' =>
      (∃ r : Int, e = .returned (.int .i64 r) ∧ Left r left (szFs fs)) ∧ Below w.heap.size w w' := by
  unfold maxLen at hl
  by_cases hlt : left < fs.length
  · go_enter Tryz.func8, Tryz.ntmps8
    go_wp2
    go_ret
    exact ⟨⟨-1, rfl, .inl rfl⟩, Below.refl _ _⟩
  · go_enter Tryz.func8, Tryz.ntmps8
    go_wp2
    go_loopw [1, 5] (fun l i wr => ∃ (k : Nat) (r : Int), k ≤ fs.length ∧ i = .int .i64 k ∧ l = .int .i64 r ∧ 0 ≤ r ∧ r + fs.length + ((fs.take k).map szF).sum ≤ left ∧ Below w.heap.size w wr) (fun _ i _ => fs.length - (intOf i).toNat)
    case atStart => exact ⟨0, _, by omega, rfl, rfl, by omega, by simp, Below.refl _ _⟩
    case round =>
      obtain ⟨k, r, hk, rfl, rfl, hr0, hr1, hb⟩ := hrel
      by_cases hkl : k < fs.length
      · obtain ⟨f, hfk⟩ : ∃ f, fs[k]? = some f := ⟨fs[k], by simp [hkl]⟩
        obtain ⟨b, o, rfl, c0, c1, a', c', c2, hsl⟩ := hv.below hb k f hfk
        have hz := sum_take_succ szF fs k f hfk
        have HZ : Hid (((fs.take (k + 1)).map szF).sum = ((fs.take k).map szF).sum + szF f) := hz
        obtain ⟨hs1, hs2, hs3⟩ := hs f (List.mem_of_getElem? hfk)
        clear hz
        go_wp2_with (go_at_call 39; refine (szFact_any f a' c' _ _ hsl hs1 hs2 hs3 (by omega) (by omega)).mono ?_; rintro e w' ⟨⟨r', rfl, hr'⟩, hb'⟩)
        · go_ret
          exact ⟨⟨-1, rfl, .inl rfl⟩, hb.trans (hb'.mono hb.size)⟩
        · go_roundw
          case rel =>
            refine ⟨k + 1, r', by omega, by go_num, rfl, by assumption, ?_, hb.trans (hb'.mono hb.size)⟩
            rw [HZ.out]
            rcases hr' with h | ⟨_, h⟩ <;> omega
          case measure => simp [intOf]; omega
      · go_wp2
        go_ret
        refine ⟨⟨r, rfl, .inr ⟨hr0, ?_⟩⟩, hb⟩
        rw [List.take_of_length_le (by omega)] at hr1
        unfold szFs
        omega
end Go.Proofs.YtognpkdgphebeaaGreat

namespace Go.Proofs.YtognpkdgphebeaaGreat
open Go.RowKit

theorem infoF : (Tryz.prog.info? 83).map (fun i => (i.zero, i.size, i.bytes)) = some (some (.agg #[.int .i64 0, .string ByteArray.empty, .slice none 0 0]), 3, 48) := by kernel_rfl
set_option maxHeartbeats 400000 in
theorem toValueS_any (a : Option Addr) (c : Nat) (vs : List V) (w : World) (hv : ValsAt w a vs) (hl : vs.length ≤ 1048576) :
    Calls Tryz.prog 76 #[.slice a vs.length c] w fun e w' =>
      (e = .returned (.slice (some ⟨w.heap.size, 0, none⟩) vs.length vs.length) ∧ OwnB w' w.heap.size 103 3 vs.length (vs.map V.cells)) ∧ Below w.heap.size w w' := by
  have hmk := run_make_agg (P := Tryz.prog) 81 103 _ 3 32 Tryz.underlying81 infoV vs.length (by omega) (by omega)
  go_enter Tryz.func76, Tryz.ntmps76
  go_wp2
  clear hmk
  go_loopw [4] (fun i wr => ∃ (k : Nat), k ≤ vs.length ∧ i = .int .i64 k ∧ OwnB wr w.heap.size 103 3 vs.length ((vs.take k).map V.cells) ∧ Below w.heap.size w wr) (fun i _ => vs.length - (intOf i).toNat)
  case atStart => exact ⟨0, by omega, rfl, OwnB.made _ _ _ _ _, (Below.refl _ _).alloc (Nat.le_refl _) _⟩
  case round =>
    obtain ⟨k, hk, rfl, ho, hb⟩ := hrel
    by_cases hkl : k < vs.length
    · obtain ⟨v, hvk⟩ : ∃ v, vs[k]? = some v := ⟨vs[k], by simp [hkl]⟩
      obtain ⟨b, o, rfl, c0, c1, c2⟩ := hv.below hb k v hvk
      go_wp2_with (go_at_call 106; refine (toValue_any v _).mono ?_; rintro e w' ⟨rfl, hb'⟩; have ho' := ho.below hb' ho.lt; obtain ⟨⟨x0, y0⟩, ⟨x1, y1⟩, ⟨x2, y2⟩, f0, f1, f2⟩ := ho'.at3 hkl)
      go_roundw
      case rel =>
        refine ⟨k + 1, by omega, by go_num, ?_, (((hb.trans (hb'.mono hb.size)).setCell (by exact Nat.le_refl _) _).setCell (by exact Nat.le_refl _) _).setCell (by exact Nat.le_refl _) _⟩
        rw [map_take_succ V.cells vs k v hvk]
        exact ho'.put3 (by simp; omega) hkl _ _ _
      case measure => simp [intOf]; omega
    · go_wp2
      go_ret
      rw [List.take_of_length_le (by omega)] at ho
      exact ⟨⟨rfl, ho⟩, hb⟩

/-- The facts lie in a block of their own, each with its slots in another: gs. -/
structure OwnFs (w : World) (g : Nat) (N : Nat) (fs : List F) (gs : List Nat) : Prop where
  len : gs.length = fs.length
  own : OwnB w g 83 3 N ((fs.zip gs).map fun p => fcells p.1 (.slice (some ⟨p.2, 0, none⟩) p.1.slots.length p.1.slots.length))
  each : ∀ (i : Nat) (f : F) (h : Nat), fs[i]? = some f → gs[i]? = some h → OwnB w h 103 3 f.slots.length (f.slots.map V.cells)
  gt : ∀ h ∈ gs, g < h
  nodup : gs.Nodup

theorem OwnFs.at {w : World} {g N : Nat} {fs : List F} {gs : List Nat} (h : OwnFs w g N fs gs) : FactsAt w (some ⟨g, 0, none⟩) fs := by
  intro i f hf
  obtain ⟨hi, rfl⟩ := List.getElem?_eq_some_iff.1 hf
  have hg : gs[i]? = some (gs[i]'(by rw [h.len]; exact hi)) := List.getElem?_eq_getElem _
  have hz : ((fs.zip gs).map fun p => fcells p.1 (.slice (some ⟨p.2, 0, none⟩) p.1.slots.length p.1.slots.length))[i]? = some (fcells fs[i] (.slice (some ⟨gs[i]'(by rw [h.len]; exact hi), 0, none⟩) fs[i].slots.length fs[i].slots.length)) := by
    rw [List.getElem?_map, List.getElem?_zip_eq_some (z := (fs[i], gs[i]'(by rw [h.len]; exact hi))) |>.2 ⟨hf, hg⟩]
    rfl
  refine ⟨g, 0, rfl, ?_, ?_, some ⟨gs[i]'(by rw [h.len]; exact hi), 0, none⟩, fs[i].slots.length, ?_, ValsAt.own (h.each i _ _ hf hg)⟩
  · simpa using h.own.cell hz (j := 0) rfl
  · simpa using h.own.cell hz (j := 1) rfl
  · simpa using h.own.cell hz (j := 2) rfl

set_option maxHeartbeats 400000 in
theorem toFact_any (f : F) (a : Option Addr) (c : Nat) (w : World) (hv : ValsAt w a f.slots) (hl : f.slots.length ≤ 1048576) :
    Calls Tryz.prog 46 #[.agg #[.int .i64 f.tag, .string f.cls, .slice a f.slots.length c]] w fun e w' =>
      (∃ h, w.heap.size ≤ h ∧ e = .returned (.agg #[.int .i64 f.tag, .string f.cls, .slice (some ⟨h, 0, none⟩) f.slots.length f.slots.length]) ∧ OwnB w' h 103 3 f.slots.length (f.slots.map V.cells)) ∧ Below w.heap.size w w' := by
  go_enter Tryz.func46, Tryz.ntmps46
  go_wp2_with (go_at_call 76; refine (toValueS_any a c f.slots _ (hv.below ?_) hl).mono ?_; exact ((((Below.refl _ _).alloc (Nat.le_refl _) _).alloc (by simp) _).alloc (by simp; omega) _); rintro e w' ⟨⟨rfl, ho⟩, hb'⟩; obtain ⟨hc, hf⟩ := bcell hb')
  refine bodyPost_ret (v := .agg #[.int .i64 f.tag, .string f.cls, .slice (some ⟨w.heap.size + 1 + 1 + 1, 0, none⟩) f.slots.length f.slots.length]) (by simp [results, Tryz.results46, go_sem, hc]) rfl ⟨⟨w.heap.size + 1 + 1 + 1, by omega, rfl, ?_⟩, ?_⟩
  · simp only [World.size_alloc] at ho
    exact (((ho.setOther (by simp) _).setOther (by simp; omega) _).setOther (by simp; omega) _).setOther (by simp; omega) _
  · have hB : Below w.heap.size w w' := ((((Below.refl _ _).alloc (Nat.le_refl _) _).alloc (by simp) _).alloc (by simp; omega) _).trans (hb'.mono (by simp; omega))
    exact (((hB.setCell (by simp; omega) _).setCell (by simp) _).setCell (by simp) _).setCell (by simp) _

theorem OwnFs.lt {w : World} {g N : Nat} {fs : List F} {gs : List Nat} (h : OwnFs w g N fs gs) : g < w.heap.size ∧ ∀ x ∈ gs, x < w.heap.size := by
  refine ⟨h.own.lt, fun x hx => ?_⟩
  obtain ⟨i, hi, rfl⟩ := List.getElem_of_mem hx
  have hf : i < fs.length := by rw [← h.len]; exact hi
  exact (h.each i fs[i] gs[i] (List.getElem?_eq_getElem hf) (List.getElem?_eq_getElem hi)).lt

theorem OwnFs.below {w w' : World} {g N B : Nat} {fs : List F} {gs : List Nat} (h : OwnFs w g N fs gs) (hb : Below B w w') (hB : w.heap.size ≤ B) : OwnFs w' g N fs gs := by
  have hl := h.lt
  refine ⟨h.len, h.own.below hb (by omega), fun i f x hf hx => (h.each i f x hf hx).below hb ?_, h.gt, h.nodup⟩
  have := hl.2 x (List.mem_of_getElem? hx)
  omega

theorem OwnFs.start (w : World) (z : Array Value) (N : Nat) : OwnFs (w.alloc (.cells (madeCells z (N * 3)) 83)) w.heap.size N [] [] :=
  ⟨rfl, OwnB.made _ _ _ _ _, fun i f x hf => by simp at hf, fun x hx => by simp at hx, List.nodup_nil⟩

theorem OwnFs.step {w w' : World} {g N k h : Nat} {fs : List F} {gs : List Nat} {f : F} (H : OwnFs w g N fs gs) (hb : Below w.heap.size w w') (ho : OwnB w' h 103 3 f.slots.length (f.slots.map V.cells)) (hh : w.heap.size ≤ h) (hk : fs.length = k) (hN : k < N) :
    OwnFs (((w'.setCell ⟨g, k * 3, none⟩ (.int .i64 f.tag)).setCell ⟨g, k * 3 + 1, none⟩ (.string f.cls)).setCell ⟨g, k * 3 + 2, none⟩ (.slice (some ⟨h, 0, none⟩) f.slots.length f.slots.length)) g N (fs ++ [f]) (gs ++ [h]) := by
  have hl := H.lt
  have H' := H.below hb (Nat.le_refl _)
  have hlen : gs.length = k := by rw [H.len, hk]
  refine ⟨by simp [H.len], ?_, ?_, ?_, ?_⟩
  · have := H'.own.put3 (k := k) (by simp [H.len, hk]) hN (.int .i64 f.tag) (.string f.cls) (.slice (some ⟨h, 0, none⟩) f.slots.length f.slots.length)
    rw [List.zip_append (by rw [H.len]), List.map_append]
    exact this
  · intro i f' x hf hx
    have hxg : x ≠ g := by
      have : x ∈ gs ++ [h] := List.mem_of_getElem? hx
      rcases List.mem_append.1 this with hm | hm
      · have := H.gt x hm
        omega
      · simp at hm
        omega
    have key : OwnB w' x 103 3 f'.slots.length (f'.slots.map V.cells) := by
      by_cases hi : i < fs.length
      · rw [List.getElem?_append_left hi] at hf
        rw [List.getElem?_append_left (by omega)] at hx
        exact H'.each i f' x hf hx
      · have hil : i < (fs ++ [f]).length := (List.getElem?_eq_some_iff.1 hf).1
        simp at hil
        obtain rfl : i = fs.length := by omega
        rw [List.getElem?_append_right (Nat.le_refl _)] at hf
        rw [List.getElem?_append_right (by omega)] at hx
        simp at hf
        subst hf
        rw [show fs.length - gs.length = 0 by omega] at hx
        simp at hx
        subst hx
        exact ho
    exact ((key.setOther hxg _).setOther hxg _).setOther hxg _
  · intro x hx
    rcases List.mem_append.1 hx with hm | hm
    · exact H.gt x hm
    · simp at hm
      omega
  · rw [List.nodup_append]
    refine ⟨H.nodup, by simp, fun a ha b hb => ?_⟩
    simp at hb
    have := hl.2 a ha
    omega

set_option maxHeartbeats 400000 in
theorem toFactS_any (a : Option Addr) (c : Nat) (fs : List F) (w : World) (hv : FactsAt w a fs) (hl : fs.length ≤ 1048576) (hs : ∀ f ∈ fs, f.slots.length ≤ 1048576) :
    Calls Tryz.prog 11 #[.slice a fs.length c] w fun e w' =>
      (e = .returned (.slice (some ⟨w.heap.size, 0, none⟩) fs.length fs.length) ∧ ∃ gs, OwnFs w' w.heap.size fs.length fs gs) ∧ Below w.heap.size w w' := by
  have hmk := run_make_agg (P := Tryz.prog) 38 83 _ 3 48 Tryz.underlying38 infoF fs.length (by omega) (by omega)
  go_enter Tryz.func11, Tryz.ntmps11
  go_wp2
  clear hmk
  go_loopw [4] (fun i wr => ∃ (k : Nat) (gs : List Nat), k ≤ fs.length ∧ i = .int .i64 k ∧ OwnFs wr w.heap.size fs.length (fs.take k) gs ∧ Below w.heap.size w wr) (fun i _ => fs.length - (intOf i).toNat)
  case atStart => exact ⟨0, [], by omega, rfl, OwnFs.start _ _ _, (Below.refl _ _).alloc (Nat.le_refl _) _⟩
  case round =>
    obtain ⟨k, gs, hk, rfl, ho, hb⟩ := hrel
    by_cases hkl : k < fs.length
    · obtain ⟨f, hfk⟩ : ∃ f, fs[k]? = some f := ⟨fs[k], by simp [hkl]⟩
      obtain ⟨b, o, rfl, c0, c1, a', c', c2, hsl⟩ := hv.below hb k f hfk
      have hsf := hs f (List.mem_of_getElem? hfk)
      go_wp2_with (go_at_call 46; refine (toFact_any f a' c' _ hsl hsf).mono ?_; rintro e w' ⟨⟨h, hh, rfl, hoh⟩, hb'⟩; have ho' := ho.own.below hb' ho.own.lt; obtain ⟨⟨x0, y0⟩, ⟨x1, y1⟩, ⟨x2, y2⟩, f0, f1, f2⟩ := ho'.at3 hkl)
      go_roundw
      case rel =>
        refine ⟨k + 1, gs ++ [h], by omega, by go_num, ?_, (((hb.trans (hb'.mono hb.size)).setCell (by exact Nat.le_refl _) _).setCell (by exact Nat.le_refl _) _).setCell (by exact Nat.le_refl _) _⟩
        rw [take_succ' fs k f hfk]
        exact ho.step hb' hoh hh (by simp; omega) hkl
      case measure => simp [intOf]; omega
    · go_wp2
      go_ret
      rw [List.take_of_length_le (by omega)] at ho
      exact ⟨⟨rfl, gs, ho⟩, hb⟩
end Go.Proofs.YtognpkdgphebeaaGreat

namespace Go.Proofs.YtognpkdgphebeaaGreat
open Go.RowKit
attribute [local go_sem ↓] Go.wp_at_zero Go.wp_at_succ

set_option maxHeartbeats 800000 in
theorem eqValueS_same (a a' : Option Addr) (c c' : Nat) (vs : List V) (w : World) (hv : ValsAt w a vs) (hv' : ValsAt w a' vs) (hl : vs.length ≤ 1048576) :
    Calls Tryz.prog 83 #[.slice a vs.length c, .slice a' vs.length c'] w fun e w' =>
      e = .returned (.bool true) ∧ Below w.heap.size w w' := by
  go_enter Tryz.func83, Tryz.ntmps83
  go_wp2
  go_loopw [5] (fun i wr => ∃ (k : Nat), k ≤ vs.length ∧ i = .int .i64 k ∧ Below w.heap.size w wr) (fun i _ => vs.length - (intOf i).toNat)
  case atStart => exact ⟨0, by omega, rfl, Below.refl _ _⟩
  case round =>
    obtain ⟨k, hk, rfl, hb⟩ := hrel
    by_cases hkl : k < vs.length
    · obtain ⟨v, hvk⟩ : ∃ v, vs[k]? = some v := ⟨vs[k], by simp [hkl]⟩
      obtain ⟨b, o, rfl, c0, c1, c2⟩ := hv.below hb k v hvk
      obtain ⟨b', o', rfl, d0, d1, d2⟩ := hv'.below hb k v hvk
      have z0 : (0 : Int) ≤ (k : Int) := by omega
      have z1 : (k : Int) < (vs.length : Int) := by omega
      go_wp2
      go_region_held3 (fun w' => w'.cell? ⟨b, o + k * 3, none⟩ = some (.int .i64 v.kind) ∧ w'.cell? ⟨b, o + k * 3 + 1, none⟩ = some (.int .i64 v.num) ∧ w'.cell? ⟨b, o + k * 3 + 2, none⟩ = some (.string v.sym) ∧ w'.cell? ⟨b', o' + k * 3, none⟩ = some (.int .i64 v.kind) ∧ w'.cell? ⟨b', o' + k * 3 + 1, none⟩ = some (.int .i64 v.num) ∧ w'.cell? ⟨b', o' + k * 3 + 2, none⟩ = some (.string v.sym)) ((go_split_ands; refine ⟨?_, ?_, ?_, ?_, ?_, ?_⟩ <;> first | (simp [*]; done) | exact cell_below hb' (by simp [*])))
        (first | (go_at_call 84; refine (eqValue_same v _).mono ?_; rintro e w' ⟨rfl, hb'⟩))
      go_wp2
      go_roundw
      case rel => exact ⟨k + 1, by omega, by go_num, hb.drew.trans (hb'.mono hb.size)⟩
      case measure => simp [intOf]; omega
    · go_wp2
      go_ret
      exact ⟨rfl, hb⟩

set_option maxHeartbeats 400000 in
theorem eqFact_same (f : F) (a a' : Option Addr) (c c' : Nat) (w : World) (hv : ValsAt w a f.slots) (hv' : ValsAt w a' f.slots) (hl : f.slots.length ≤ 1048576) :
    Calls Tryz.prog 51 #[.agg #[.int .i64 f.tag, .string f.cls, .slice a f.slots.length c], .agg #[.int .i64 f.tag, .string f.cls, .slice a' f.slots.length c']] w fun e w' =>
      e = .returned (.bool true) ∧ Below w.heap.size w w' := by
  have B2 : ∀ o o', Below w.heap.size w ((w.alloc o).alloc o') := fun o o' => ((Below.refl _ _).alloc (Nat.le_refl _) _).alloc (by simp) _
  go_enter Tryz.func51, Tryz.ntmps51
  go_wp2_with (go_at_call 83; refine (eqValueS_same a a' c c' f.slots _ (hv.below (B2 _ _)) (hv'.below (B2 _ _)) hl).mono ?_; rintro e w' ⟨rfl, hb'⟩)
  go_ret
  exact ⟨rfl, (B2 _ _).trans (hb'.mono (by simp; omega))⟩

set_option maxHeartbeats 800000 in
theorem eqFactS_same (a a' : Option Addr) (c c' : Nat) (fs : List F) (w : World) (hv : FactsAt w a fs) (hv' : FactsAt w a' fs) (hl : fs.length ≤ 1048576) (hs : ∀ f ∈ fs, f.slots.length ≤ 1048576) :
    Calls Tryz.prog 15 #[.slice a fs.length c, .slice a' fs.length c'] w fun e w' =>
      e = .returned (.bool true) ∧ Below w.heap.size w w' := by
  go_enter Tryz.func15, Tryz.ntmps15
  go_wp2
  go_loopw [5] (fun i wr => ∃ (k : Nat), k ≤ fs.length ∧ i = .int .i64 k ∧ Below w.heap.size w wr) (fun i _ => fs.length - (intOf i).toNat)
  case atStart => exact ⟨0, by omega, rfl, Below.refl _ _⟩
  case round =>
    obtain ⟨k, hk, rfl, hb⟩ := hrel
    by_cases hkl : k < fs.length
    · obtain ⟨f, hfk⟩ : ∃ f, fs[k]? = some f := ⟨fs[k], by simp [hkl]⟩
      obtain ⟨b, o, rfl, c0, c1, s, cs, c2, hsl⟩ := hv.below hb k f hfk
      obtain ⟨b', o', rfl, d0, d1, s', cs', d2, hsl'⟩ := hv'.below hb k f hfk
      have z0 : (0 : Int) ≤ (k : Int) := by omega
      have z1 : (k : Int) < (fs.length : Int) := by omega
      have hsf := hs f (List.mem_of_getElem? hfk)
      have B1 : Below wr.heap.size wr wr.drew := (Below.refl _ _).drew
      go_wp2
      go_region_held3 (fun w' => w'.cell? ⟨b, o + k * 3, none⟩ = some (.int .i64 f.tag) ∧ w'.cell? ⟨b, o + k * 3 + 1, none⟩ = some (.string f.cls) ∧ w'.cell? ⟨b, o + k * 3 + 2, none⟩ = some (.slice s f.slots.length cs) ∧ w'.cell? ⟨b', o' + k * 3, none⟩ = some (.int .i64 f.tag) ∧ w'.cell? ⟨b', o' + k * 3 + 1, none⟩ = some (.string f.cls) ∧ w'.cell? ⟨b', o' + k * 3 + 2, none⟩ = some (.slice s' f.slots.length cs')) ((go_split_ands; refine ⟨?_, ?_, ?_, ?_, ?_, ?_⟩ <;> first | (simp [*]; done) | exact cell_below hb' (by simp [*])))
        (first | (go_at_call 51; refine (eqFact_same f s s' cs cs' _ (hsl.below B1) (hsl'.below B1) hsf).mono ?_; rintro e w' ⟨rfl, hb'⟩))
      go_wp2
      go_roundw
      case rel => exact ⟨k + 1, by omega, by go_num, hb.drew.trans (hb'.mono hb.size)⟩
      case measure => simp [intOf]; omega
    · go_wp2
      go_ret
      exact ⟨rfl, hb⟩
end Go.Proofs.YtognpkdgphebeaaGreat

namespace Go.Proofs.YtognpkdgphebeaaGreat
open Go.RowKit

theorem le_sum {α : Type} (g : α → Nat) (l : List α) (x : α) (h : x ∈ l) : g x ≤ (l.map g).sum := by
  induction l with
  | nil => simp at h
  | cons y r ih =>
    simp only [List.map_cons, List.sum_cons]
    rcases List.mem_cons.1 h with rfl | h
    · omega
    · have := ih h
      omega
theorem szVs_le {vs : List V} {N : Nat} (h : szVs vs ≤ N) : vs.length ≤ N ∧ ∀ v ∈ vs, v.sym.size ≤ N := by
  unfold szVs at h
  refine ⟨by omega, fun v hv => ?_⟩
  have := le_sum szV vs v hv
  have e : szV v = v.sym.size := rfl
  omega
theorem szFs_le {fs : List F} {N : Nat} (h : szFs fs ≤ N) : fs.length ≤ N ∧ ∀ f ∈ fs, f.cls.size ≤ N ∧ f.slots.length ≤ N ∧ ∀ v ∈ f.slots, v.sym.size ≤ N := by
  unfold szFs at h
  refine ⟨by omega, fun f hf => ?_⟩
  have h1 := le_sum szF fs f hf
  have e : szF f = f.cls.size + szVs f.slots := rfl
  exact ⟨by omega, szVs_le (by omega)⟩
theorem sized_of {fs : List F} (h : szFs fs ≤ 1048576) : ∀ f ∈ fs, Sized f := fun f hf => by
  obtain ⟨h1, h2, h3⟩ := (szFs_le h).2 f hf
  refine ⟨by unfold maxLen; omega, h2, fun v hv => ?_⟩
  have := h3 v hv
  unfold maxLen
  omega
/-- Slots of facts that an argument holds. -/
theorem Arg.sizes {fs : List F} (h : Arg fs) : ∀ f ∈ fs, f.cls.size ≤ maxLen ∧ f.slots.length ≤ maxLen ∧ ∀ v ∈ f.slots, v.sym.size ≤ maxLen := fun f hf => ⟨(h.2 f hf).1, (h.2 f hf).2.1, fun v hv => ((h.2 f hf).2.2.2 v hv).2.2⟩
end Go.Proofs.YtognpkdgphebeaaGreat
