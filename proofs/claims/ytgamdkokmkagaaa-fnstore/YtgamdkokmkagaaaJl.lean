/-
  OUR OWN TEXT. To0, To, one behind the other.
-/
import Derived.Test.YtgamdkokmkagaaaMem
namespace Go.Proofs.Ytgamdkokmkagaaa
open Go.RowKit

theorem infoV : (Try.prog.info? 125).map (fun i => (i.zero, i.size, i.bytes)) = some (some (.agg #[.int .i64 0, .int .i64 0, .string ByteArray.empty]), 3, 32) := by kernel_rfl

/-- 'make([]T, n)', the elements structs of some cells. -/
theorem run_make_agg {P : Program} (t e : TypeId) (z : Array Value) (size bytes : Nat) (ht : P.underlying t = some (.slice e)) (hinfo : (P.info? e).map (fun i => (i.zero, i.size, i.bytes)) = some (some (.agg z), size, bytes))
    (n : Nat) (hb : bytes * n ≤ 281474976710656) (h63 : n ≤ 9223372036854775807) (w : World) :
    (Instr.makeSlice t (.int .i64 (n : Int)) (.int .i64 (n : Int))).run P w = .ok (.slice (some ⟨w.heap.size, 0, none⟩) n n) (w.alloc (.cells (madeCells z (n * size)) e)) := by
  obtain ⟨i, hi, hz0, hz1, hz2⟩ := info_parts hinfo
  have hb' : (i.bytes : Int) * (n : Int) ≤ 281474976710656 := by
    rw [hz2]
    have h : ((bytes * n : Nat) : Int) ≤ 281474976710656 := by omega
    rwa [Int.natCast_mul] at h
  have hr := run_make (P := P) w t e i _ ht hi hz0 .i64 .i64 n n (by omega) (Int.le_refl _) hb' (by omega)
  simp only [Int.toNat_natCast, hz1, Value.cells] at hr
  exact hr

set_option maxHeartbeats 400000 in
theorem toValue_any (v : V) (w : World) :
    Calls Try.prog 75 #[.agg #[.int .i64 v.kind, .int .i64 v.num, .string v.sym]] w fun e w' =>
      e = .returned (.agg #[.int .i64 v.kind, .int .i64 v.num, .string v.sym]) ∧ Below w.heap.size w w' := by
  go_enter Try.func75, Try.ntmps75
  go_wp2
  exact bodyPost_ret (v := .agg #[.int .i64 v.kind, .int .i64 v.num, .string v.sym]) (by simp [results, Try.results75, go_sem]) rfl ⟨rfl, (((Below.refl _ _).alloc (Nat.le_refl _) _).alloc (by simp) _).alloc (by simp; omega) _⟩
end Go.Proofs.Ytgamdkokmkagaaa

namespace Go.Proofs.Ytgamdkokmkagaaa
open Go.RowKit

theorem infoF : (Try.prog.info? 117).map (fun i => (i.zero, i.size, i.bytes)) = some (some (.agg #[.int .i64 0, .string ByteArray.empty, .slice none 0 0]), 3, 48) := by kernel_rfl
set_option maxHeartbeats 400000 in
theorem toValueS_any (a : Option Addr) (c : Nat) (vs : List V) (w : World) (hv : ValsAt w a vs) (hl : vs.length ≤ 1048576) :
    Calls Try.prog 25 #[.slice a vs.length c] w fun e w' =>
      (e = .returned (.slice (some ⟨w.heap.size, 0, none⟩) vs.length vs.length) ∧ OwnB w' w.heap.size 125 3 vs.length (vs.map V.cells)) ∧ Below w.heap.size w w' := by
  have hmk := run_make_agg (P := Try.prog) 29 125 _ 3 32 Try.underlying29 infoV vs.length (by omega) (by omega)
  go_enter Try.func25, Try.ntmps25
  go_wp2
  clear hmk
  go_loopw [4] (fun i wr => ∃ (k : Nat), k ≤ vs.length ∧ i = .int .i64 k ∧ OwnB wr w.heap.size 125 3 vs.length ((vs.take k).map V.cells) ∧ Below w.heap.size w wr) (fun i _ => vs.length - (intOf i).toNat)
  case atStart => exact ⟨0, by omega, rfl, OwnB.made _ _ _ _ _, (Below.refl _ _).alloc (Nat.le_refl _) _⟩
  case round =>
    obtain ⟨k, hk, rfl, ho, hb⟩ := hrel
    by_cases hkl : k < vs.length
    · obtain ⟨v, hvk⟩ : ∃ v, vs[k]? = some v := ⟨vs[k], by simp [hkl]⟩
      obtain ⟨b, o, rfl, c0, c1, c2⟩ := hv.below hb k v hvk
      go_wp2_with (go_at_call 75; refine (toValue_any v _).mono ?_; rintro e w' ⟨rfl, hb'⟩; have ho' := ho.below hb' ho.lt; obtain ⟨⟨x0, y0⟩, ⟨x1, y1⟩, ⟨x2, y2⟩, f0, f1, f2⟩ := ho'.at3 hkl)
      go_roundw
      case rel =>
        refine ⟨k + 1, by omega, by go_num, ?_, (((hb.trans (hb'.mono hb.size)).setCell (by exact Nat.le_refl _) _).setCell (by exact Nat.le_refl _) _).setCell (by exact Nat.le_refl _) _⟩
        rw [map_take_succ V.cells vs k v hvk]
        exact ho'.put3 (by simp; omega) hkl _ _ _
      case measure => simp [intOf]; omega
    · go_wp2
      go_ret
      rw [List.take_of_length_le (by omega)] at ho
      exact ⟨⟨rfl, ho⟩, hb⟩

/-- The facts lie in a block of their own, each with its slots in another: gs. -/
structure OwnFs (w : World) (g : Nat) (N : Nat) (fs : List F) (gs : List Nat) : Prop where
  len : gs.length = fs.length
  own : OwnB w g 117 3 N ((fs.zip gs).map fun p => fcells p.1 (.slice (some ⟨p.2, 0, none⟩) p.1.slots.length p.1.slots.length))
  each : ∀ (i : Nat) (f : F) (h : Nat), fs[i]? = some f → gs[i]? = some h → OwnB w h 125 3 f.slots.length (f.slots.map V.cells)
  gt : ∀ h ∈ gs, g < h
  nodup : gs.Nodup

theorem OwnFs.at {w : World} {g N : Nat} {fs : List F} {gs : List Nat} (h : OwnFs w g N fs gs) : FactsAt w (some ⟨g, 0, none⟩) fs := by
  intro i f hf
  obtain ⟨hi, rfl⟩ := List.getElem?_eq_some_iff.1 hf
  have hg : gs[i]? = some (gs[i]'(by rw [h.len]; exact hi)) := List.getElem?_eq_getElem _
  have hz : ((fs.zip gs).map fun p => fcells p.1 (.slice (some ⟨p.2, 0, none⟩) p.1.slots.length p.1.slots.length))[i]? = some (fcells fs[i] (.slice (some ⟨gs[i]'(by rw [h.len]; exact hi), 0, none⟩) fs[i].slots.length fs[i].slots.length)) := by
    rw [List.getElem?_map, List.getElem?_zip_eq_some (z := (fs[i], gs[i]'(by rw [h.len]; exact hi))) |>.2 ⟨hf, hg⟩]
    rfl
  refine ⟨g, 0, rfl, ?_, ?_, some ⟨gs[i]'(by rw [h.len]; exact hi), 0, none⟩, fs[i].slots.length, ?_, ValsAt.own (h.each i _ _ hf hg)⟩
  · simpa using h.own.cell hz (j := 0) rfl
  · simpa using h.own.cell hz (j := 1) rfl
  · simpa using h.own.cell hz (j := 2) rfl

set_option maxHeartbeats 400000 in
theorem toFact_any (f : F) (a : Option Addr) (c : Nat) (w : World) (hv : ValsAt w a f.slots) (hl : f.slots.length ≤ 1048576) :
    Calls Try.prog 106 #[.agg #[.int .i64 f.tag, .string f.cls, .slice a f.slots.length c]] w fun e w' =>
      (∃ h, w.heap.size ≤ h ∧ e = .returned (.agg #[.int .i64 f.tag, .string f.cls, .slice (some ⟨h, 0, none⟩) f.slots.length f.slots.length]) ∧ OwnB w' h 125 3 f.slots.length (f.slots.map V.cells)) ∧ Below w.heap.size w w' := by
  go_enter Try.func106, Try.ntmps106
  go_wp2_with (go_at_call 25; refine (toValueS_any a c f.slots _ (hv.below ?_) hl).mono ?_; exact ((((Below.refl _ _).alloc (Nat.le_refl _) _).alloc (by simp) _).alloc (by simp; omega) _); rintro e w' ⟨⟨rfl, ho⟩, hb'⟩; obtain ⟨hc, hf⟩ := bcell hb')
  refine bodyPost_ret (v := .agg #[.int .i64 f.tag, .string f.cls, .slice (some ⟨w.heap.size + 1 + 1 + 1, 0, none⟩) f.slots.length f.slots.length]) (by simp [results, Try.results106, go_sem, hc]) rfl ⟨⟨w.heap.size + 1 + 1 + 1, by omega, rfl, ?_⟩, ?_⟩
  · simp only [World.size_alloc] at ho
    exact (((ho.setOther (by simp) _).setOther (by simp; omega) _).setOther (by simp; omega) _).setOther (by simp; omega) _
  · have hB : Below w.heap.size w w' := ((((Below.refl _ _).alloc (Nat.le_refl _) _).alloc (by simp) _).alloc (by simp; omega) _).trans (hb'.mono (by simp; omega))
    exact (((hB.setCell (by simp; omega) _).setCell (by simp) _).setCell (by simp) _).setCell (by simp) _

theorem OwnFs.lt {w : World} {g N : Nat} {fs : List F} {gs : List Nat} (h : OwnFs w g N fs gs) : g < w.heap.size ∧ ∀ x ∈ gs, x < w.heap.size := by
  refine ⟨h.own.lt, fun x hx => ?_⟩
  obtain ⟨i, hi, rfl⟩ := List.getElem_of_mem hx
  have hf : i < fs.length := by rw [← h.len]; exact hi
  exact (h.each i fs[i] gs[i] (List.getElem?_eq_getElem hf) (List.getElem?_eq_getElem hi)).lt

theorem OwnFs.below {w w' : World} {g N B : Nat} {fs : List F} {gs : List Nat} (h : OwnFs w g N fs gs) (hb : Below B w w') (hB : w.heap.size ≤ B) : OwnFs w' g N fs gs := by
  have hl := h.lt
  refine ⟨h.len, h.own.below hb (by omega), fun i f x hf hx => (h.each i f x hf hx).below hb ?_, h.gt, h.nodup⟩
  have := hl.2 x (List.mem_of_getElem? hx)
  omega

theorem OwnFs.start (w : World) (z : Array Value) (N : Nat) : OwnFs (w.alloc (.cells (madeCells z (N * 3)) 117)) w.heap.size N [] [] :=
  ⟨rfl, OwnB.made _ _ _ _ _, fun i f x hf => by simp at hf, fun x hx => by simp at hx, List.nodup_nil⟩

theorem OwnFs.step {w w' : World} {g N k h : Nat} {fs : List F} {gs : List Nat} {f : F} (H : OwnFs w g N fs gs) (hb : Below w.heap.size w w') (ho : OwnB w' h 125 3 f.slots.length (f.slots.map V.cells)) (hh : w.heap.size ≤ h) (hk : fs.length = k) (hN : k < N) :
    OwnFs (((w'.setCell ⟨g, k * 3, none⟩ (.int .i64 f.tag)).setCell ⟨g, k * 3 + 1, none⟩ (.string f.cls)).setCell ⟨g, k * 3 + 2, none⟩ (.slice (some ⟨h, 0, none⟩) f.slots.length f.slots.length)) g N (fs ++ [f]) (gs ++ [h]) := by
  have hl := H.lt
  have H' := H.below hb (Nat.le_refl _)
  have hlen : gs.length = k := by rw [H.len, hk]
  refine ⟨by simp [H.len], ?_, ?_, ?_, ?_⟩
  · have := H'.own.put3 (k := k) (by simp [H.len, hk]) hN (.int .i64 f.tag) (.string f.cls) (.slice (some ⟨h, 0, none⟩) f.slots.length f.slots.length)
    rw [List.zip_append (by rw [H.len]), List.map_append]
    exact this
  · intro i f' x hf hx
    have hxg : x ≠ g := by
      have : x ∈ gs ++ [h] := List.mem_of_getElem? hx
      rcases List.mem_append.1 this with hm | hm
      · have := H.gt x hm
        omega
      · simp at hm
        omega
    have key : OwnB w' x 125 3 f'.slots.length (f'.slots.map V.cells) := by
      by_cases hi : i < fs.length
      · rw [List.getElem?_append_left hi] at hf
        rw [List.getElem?_append_left (by omega)] at hx
        exact H'.each i f' x hf hx
      · have hil : i < (fs ++ [f]).length := (List.getElem?_eq_some_iff.1 hf).1
        simp at hil
        obtain rfl : i = fs.length := by omega
        rw [List.getElem?_append_right (Nat.le_refl _)] at hf
        rw [List.getElem?_append_right (by omega)] at hx
        simp at hf
        subst hf
        rw [show fs.length - gs.length = 0 by omega] at hx
        simp at hx
        subst hx
        exact ho
    exact ((key.setOther hxg _).setOther hxg _).setOther hxg _
  · intro x hx
    rcases List.mem_append.1 hx with hm | hm
    · exact H.gt x hm
    · simp at hm
      omega
  · rw [List.nodup_append]
    refine ⟨H.nodup, by simp, fun a ha b hb => ?_⟩
    simp at hb
    have := hl.2 a ha
    omega

theorem OwnFs.setLow {w : World} {g N : Nat} {fs : List F} {gs : List Nat} (h : OwnFs w g N fs gs) {p : Addr} (hp : p.block < g) (x : Value) : OwnFs (w.setCell p x) g N fs gs :=
  ⟨h.len, h.own.setOther (by omega) x, fun i f y hf hy => (h.each i f y hf hy).setOther (by have := h.gt y (List.mem_of_getElem? hy); omega) x, h.gt, h.nodup⟩

set_option maxHeartbeats 400000 in
theorem toFactS_any (a : Option Addr) (c : Nat) (fs : List F) (w : World) (hv : FactsAt w a fs) (hl : fs.length ≤ 1048576) (hs : ∀ f ∈ fs, f.slots.length ≤ 1048576) :
    Calls Try.prog 53 #[.slice a fs.length c] w fun e w' =>
      (e = .returned (.slice (some ⟨w.heap.size, 0, none⟩) fs.length fs.length) ∧ ∃ gs, OwnFs w' w.heap.size fs.length fs gs) ∧ Below w.heap.size w w' := by
  have hmk := run_make_agg (P := Try.prog) 24 117 _ 3 48 Try.underlying24 infoF fs.length (by omega) (by omega)
  go_enter Try.func53, Try.ntmps53
  go_wp2
  clear hmk
  go_loopw [4] (fun i wr => ∃ (k : Nat) (gs : List Nat), k ≤ fs.length ∧ i = .int .i64 k ∧ OwnFs wr w.heap.size fs.length (fs.take k) gs ∧ Below w.heap.size w wr) (fun i _ => fs.length - (intOf i).toNat)
  case atStart => exact ⟨0, [], by omega, rfl, OwnFs.start _ _ _, (Below.refl _ _).alloc (Nat.le_refl _) _⟩
  case round =>
    obtain ⟨k, gs, hk, rfl, ho, hb⟩ := hrel
    by_cases hkl : k < fs.length
    · obtain ⟨f, hfk⟩ : ∃ f, fs[k]? = some f := ⟨fs[k], by simp [hkl]⟩
      obtain ⟨b, o, rfl, c0, c1, a', c', c2, hsl⟩ := hv.below hb k f hfk
      have hsf := hs f (List.mem_of_getElem? hfk)
      go_wp2_with (go_at_call 106; refine (toFact_any f a' c' _ hsl hsf).mono ?_; rintro e w' ⟨⟨h, hh, rfl, hoh⟩, hb'⟩; have ho' := ho.own.below hb' ho.own.lt; obtain ⟨⟨x0, y0⟩, ⟨x1, y1⟩, ⟨x2, y2⟩, f0, f1, f2⟩ := ho'.at3 hkl)
      go_roundw
      case rel =>
        refine ⟨k + 1, gs ++ [h], by omega, by go_num, ?_, (((hb.trans (hb'.mono hb.size)).setCell (by exact Nat.le_refl _) _).setCell (by exact Nat.le_refl _) _).setCell (by exact Nat.le_refl _) _⟩
        rw [take_succ' fs k f hfk]
        exact ho.step hb' hoh hh (by simp; omega) hkl
      case measure => simp [intOf]; omega
    · go_wp2
      go_ret
      rw [List.take_of_length_le (by omega)] at ho
      exact ⟨⟨rfl, gs, ho⟩, hb⟩

set_option maxHeartbeats 400000 in
theorem toStore_any (a : Option Addr) (c : Nat) (fs : List F) (nx cp : Int) (sg : Bool) (w : World) (hv : FactsAt w a fs) (hl : fs.length ≤ 1048576) (hs : ∀ f ∈ fs, f.slots.length ≤ 1048576) :
    Calls Try.prog 21 #[.agg #[.slice a fs.length c, .int .i64 nx, .int .i64 cp, .bool sg]] w fun e w' =>
      (∃ g gs, w.heap.size ≤ g ∧ e = .returned (.agg #[.slice (some ⟨g, 0, none⟩) fs.length fs.length, .int .i64 nx, .int .i64 cp, .bool sg]) ∧ OwnFs w' g fs.length fs gs) ∧ Below w.heap.size w w' := by
  go_enter Try.func21, Try.ntmps21
  go_wp2_with (go_at_call 53; refine (toFactS_any a c fs _ (hv.below ?_) hl hs).mono ?_; exact ((((Below.refl _ _).alloc (Nat.le_refl _) _).alloc (by simp) _).alloc (by simp; omega) _); rintro e w' ⟨⟨rfl, gs, ho⟩, hb'⟩; obtain ⟨hc, hf⟩ := bcell hb')
  refine bodyPost_ret (v := .agg #[.slice (some ⟨w.heap.size + 1 + 1 + 1, 0, none⟩) fs.length fs.length, .int .i64 nx, .int .i64 cp, .bool sg]) (by simp [results, Try.results21, go_sem, hc]) rfl ⟨⟨w.heap.size + 1 + 1 + 1, gs, by omega, rfl, ?_⟩, ?_⟩
  · simp only [World.size_alloc] at ho
    exact (((((((ho.setLow (by simp) _).setLow (by simp) _).setLow (by simp) _).setLow (by simp) _).setLow (by simp) _).setLow (by simp) _).setLow (by simp) _).setLow (by simp) _
  · have hB : Below w.heap.size w w' := ((((Below.refl _ _).alloc (Nat.le_refl _) _).alloc (by simp) _).alloc (by simp; omega) _).trans (hb'.mono (by simp; omega))
    exact (((((((hB.setCell (by simp; omega) _).setCell (by simp; omega) _).setCell (by simp; omega) _).setCell (by simp; omega) _).setCell (by simp) _).setCell (by simp) _).setCell (by simp) _).setCell (by simp) _
end Go.Proofs.Ytgamdkokmkagaaa
