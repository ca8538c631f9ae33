/-
  OUR OWN TEXT. The program's scanner: comments.
-/
import Derived.Test.YtdhpoagjmiligaaGreatDoorKav
namespace Go.Proofs.YtdhpoagjmiligaaGreatDoor
open Go.RowKit
attribute [local go_sem ↓] Go.wp_at_zero Go.wp_at_succ

theorem idx_line : ∀ l : Bs, (Lib.indexByte l 10 = -1 ∧ runOf lineP l = l.length) ∨ Lib.indexByte l 10 = (runOf lineP l : Int)
  | [] => .inl ⟨rfl, rfl⟩
  | b :: l => by
    unfold Lib.indexByte
    by_cases h : b = 10
    · right
      subst h
      rfl
    · have e1 : (b == 10) = false := beq_eq_false_iff_ne.2 h
      have e2 : runOf lineP (b :: l) = runOf lineP l + 1 := by
        unfold runOf
        rw [List.takeWhile_cons_of_pos (by unfold lineP; simpa using h)]
        rfl
      rw [e1, e2]
      rcases idx_line l with ⟨h1, h2⟩ | h1
      · left
        rw [h1, h2]
        exact ⟨rfl, rfl⟩
      · right
        have h3 : (Lib.indexByte l 10 == -1) = false := beq_eq_false_iff_ne.2 (by omega)
        rw [h3, h1]
        simp
/-- A comment's end. -/
def lineEnd (src : Bs) (k : Nat) : Nat := k + runOf lineP (src.drop k)
theorem index_rest {src : Bs} {b o : Nat} {w : World} (hv : BysAt w (some ⟨b, o, none⟩) src) (k : Nat) (c : Nat) (hk : k ≤ src.length) : Calls Tryz.prog 129 #[.slice (some ⟨b, o + k, none⟩) (src.length - k) c, .int .u8 10] w fun e w' => e = .returned (.int .i64 (Lib.indexByte (src.drop k) 10)) ∧ w' = w := by
  refine (Tryz.bytes_IndexByte b (o + k) (src.length - k) c ((src.drop k).map fun x => (x.toNat : Int)) 10 w (by simp) (fun i hi => ?_)).mono fun e w1 h => ⟨?_, h.2⟩
  · have hx : src[k + i]? = some (src[k + i]'(by omega)) := by simp
    obtain ⟨b', o', e, _, hc⟩ := hv (k + i) _ hx
    simp only [Option.some.injEq, Addr.mk.injEq, and_true] at e
    obtain ⟨rfl, rfl⟩ := e
    rw [Nat.add_assoc, hc]
    simp [hi]
  · have e1 : Lib.bytesOf ((src.drop k).map fun x => (x.toNat : Int)) = src.drop k := by
      unfold Lib.bytesOf
      rw [List.map_map]
      exact List.map_id'' (fun x => by simp) _
    rw [h.1, e1]
    rfl
theorem turned_drew {w w' : World} {b : Nat} (h : Turned w.drew w' b) : Turned w w' b := ⟨h.os, h.tape, h.output, h.size, h.block⟩
set_option maxRecDepth 100000 in
set_option maxHeartbeats 3200000 in
theorem skipComment_any (src : Bs) (b o c sb so k : Nat) (t : TypeId) (cs : Array Value) (w : World) (hv : BysAt w (some ⟨b, o, none⟩) src) (hl : src.length ≤ 20000) (hcap : src.length ≤ c) (hk : k < src.length) (hb : w.heap[sb]? = some (.cells cs t (0, 0))) (h0 : cs[so]? = some (.slice (some ⟨b, o, none⟩) src.length c)) (h1 : cs[so + 1]? = some (.int .i64 (k : Int))) : Calls Tryz.prog 122 #[.pointer (some ⟨sb, so, none⟩)] w fun e w' => e = .returned (.tuple #[]) ∧ w'.heap[sb]? = some (.cells (cs.setIfInBounds (so + 1) (.int .i64 (lineEnd src k : Int))) t (0, 0)) ∧ Turned w w' sb := by
  have c0 : w.cell? ⟨sb, so, none⟩ = some (.slice (some ⟨b, o, none⟩) src.length c) := by simp [World.cell?, hb, h0]
  have c1 : w.cell? ⟨sb, so + 1, none⟩ = some (.int .i64 (k : Int)) := by simp [World.cell?, hb, h1]
  have z1 : w.frozen? ⟨sb, so + 1, none⟩ = false := by simp [World.frozen?, hb]
  have HI : Hid (∀ c', Calls Tryz.prog 129 #[.slice (some ⟨b, o + k, none⟩) (src.length - k) c', .int .u8 10] w.drew fun e w' => e = .returned (.int .i64 (Lib.indexByte (src.drop k) 10)) ∧ w' = w.drew) := fun c' => index_rest (hv.below (below_drew1 (Below.refl _ _))) k c' (by omega)
  have hck : ¬ c = k := by omega
  have s0 : (0 : Int) ≤ (k : Int) := by omega
  have s1 : (k : Int) ≤ (src.length : Int) := by omega
  have s2 : (src.length : Int) ≤ (c : Int) := by omega
  go_enter Tryz.func122, Tryz.ntmps122
  go_wp2_with fail
  go_region_held3 (fun w' => w'.cell? ⟨sb, so, none⟩ = some (.slice (some ⟨b, o, none⟩) src.length c) ∧ w'.cell? ⟨sb, so + 1, none⟩ = some (.int .i64 (k : Int))) ((go_split_ands; refine ⟨?_, ?_⟩ <;> first | assumption | (simp [*]; done)))
    (first | (go_at_call 129; refine (HI.out _).mono ?_; rintro e w1 ⟨rfl, hw⟩; rw [hw]; clear hw w1))
  have hrl : runOf lineP (src.drop k) ≤ src.length - k := by
    have := (List.takeWhile_sublist lineP (l := src.drop k)).length_le
    rw [List.length_drop] at this
    exact this
  have d1 : w.drew.cell? ⟨sb, so + 1, none⟩ = some (.int .i64 (k : Int)) := c1
  have d0 : w.drew.cell? ⟨sb, so, none⟩ = some (.slice (some ⟨b, o, none⟩) src.length c) := c0
  have y1 : w.drew.frozen? ⟨sb, so + 1, none⟩ = false := z1
  rcases idx_line (src.drop k) with ⟨g1, g2⟩ | g1
  · have HLE : Hid (lineEnd src k = src.length) := show _ = _ from by
      unfold lineEnd
      rw [g2, List.length_drop]
      omega
    have g3 : Lib.indexByte (src.drop k) 10 < 0 := by omega
    clear g1 g2
    go_wp2
    refine bodyPost_ret (v := .tuple #[]) (by simp [results, Tryz.results122]) rfl ⟨rfl, ?_, ?_⟩
    · rw [HLE.out]
      exact heap_setCell_same (w := w.drew) hb _
    · exact turned_drew (Turned.setCells [_] (so + 1) w.drew sb)
  · have g3 : ¬ Lib.indexByte (src.drop k) 10 < 0 := by omega
    have hadd : wrap64 ((k : Int) + Lib.indexByte (src.drop k) 10) = (lineEnd src k : Int) := by
      rw [g1]
      unfold lineEnd wrap64
      omega
    clear g1
    go_wp2
    refine bodyPost_end (results_none rfl _ _ _) rfl ⟨rfl, ?_, ?_⟩
    · exact heap_setCell_same (w := w.drew) hb _
    · exact turned_drew (Turned.setCells [_] (so + 1) w.drew sb)
end Go.Proofs.YtdhpoagjmiligaaGreatDoor
