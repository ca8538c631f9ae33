/-
  OUR OWN TEXT. EvalExpr: the program's side: a variable's value; an operation.
-/
import Derived.Test.YtpiglmkpmlogjaaEv3
import Derived.Test.YtpiglmkpmlogjaaIc2
namespace Go.Proofs.Ytpiglmkpmlogjaa
open Go.RowKit
attribute [local go_sem ↓] Go.wp_at_zero Go.wp_at_succ

def evV (x : Ev) : Value := .agg #[.int .i64 x.code, .int .i64 x.val.kind, .int .i64 x.val.num, .string x.val.sym]
theorem evV_bad (c : Int) : evV (evBad c) = .agg #[.int .i64 c, .int .i64 0, .int .i64 0, .string ⟨#[]⟩] := rfl
/-- A box of four cells, none frozen. -/
def Bx4 (w : World) (b : Nat) (t : TypeId) (x0 x1 x2 x3 : Value) : Prop := w.heap[b]? = some (.cells #[x0, x1, x2, x3] t (0, 0))
theorem Bx4.facts {w : World} {b : Nat} {t : TypeId} {x0 x1 x2 x3 : Value} (h : Bx4 w b t x0 x1 x2 x3) : (w.cell? ⟨b, 0, none⟩ = some x0 ∧ w.cell? ⟨b, 1, none⟩ = some x1 ∧ w.cell? ⟨b, 2, none⟩ = some x2 ∧ w.cell? ⟨b, 3, none⟩ = some x3) ∧
    (w.frozen? ⟨b, 0, none⟩ = false ∧ w.frozen? ⟨b, 1, none⟩ = false ∧ w.frozen? ⟨b, 2, none⟩ = false ∧ w.frozen? ⟨b, 3, none⟩ = false) ∧ b < w.heap.size := by
  unfold Bx4 at h
  refine ⟨⟨?_, ?_, ?_, ?_⟩, ⟨?_, ?_, ?_, ?_⟩, lt_of_block' h⟩ <;> simp [World.cell?, World.frozen?, h]
theorem Bx4.below {w w' : World} {b : Nat} {t : TypeId} {x0 x1 x2 x3 : Value} (h : Bx4 w b t x0 x1 x2 x3) {B : Nat} (hb : Below B w w') (hB : b < B) : Bx4 w' b t x0 x1 x2 x3 := (hb.block b hB).trans h
theorem lookB_cons (b : Bd) (r : List Bd) (s : ByteArray) : lookB (b :: r) s = if b.var = s then some b.val else lookB r s := rfl
theorem evVar_some {bs : List Bd} {s : ByteArray} {v : V} (h : lookB bs s = some v) : evVar bs s = ⟨0, v⟩ := by simp [evVar, h]
theorem evVar_none {bs : List Bd} {s : ByteArray} (h : lookB bs s = none) : evVar bs s = evBad 1 := by simp [evVar, h]

set_option maxHeartbeats 800000 in
theorem valueOf_any (s : ByteArray) (a : Option Addr) (c : Nat) (bs : List Bd) {q : Option Nat} (w : World) (hv : BdsAt q w a bs) (hl : bs.length ≤ 1048576) :
    Calls Try.prog 186 #[.string s, .slice a bs.length c] w fun e w' => e = .returned (evV (evVar bs s)) ∧ Below w.heap.size w w' := by
  have B0 : ∀ o, Below w.heap.size w (w.alloc o) := fun o => (Below.refl _ _).alloc (Nat.le_refl _) _
  go_enter Try.func186, Try.ntmps186
  go_wp2
  go_loopw [9] (fun i wr => ∃ (k : Nat), k ≤ bs.length ∧ i = .int .i64 k ∧ lookB bs s = lookB (bs.drop k) s ∧ Bx4 wr w.heap.size 122 (.int .i64 0) (.int .i64 0) (.int .i64 0) (.string ByteArray.empty) ∧ Below w.heap.size w wr) (fun i _ => bs.length - (intOf i).toNat)
  case atStart => exact ⟨0, by omega, rfl, rfl, heap_alloc_new _ _, B0 _⟩
  case round =>
    obtain ⟨k, hk, rfl, hG, hbx, hb⟩ := hrel
    have HG := hidE hG
    have HBX := hidE hbx
    clear hG hbx
    by_cases hkl : k < bs.length
    · obtain ⟨x, hxk⟩ : ∃ x, bs[k]? = some x := ⟨bs[k], by simp [hkl]⟩
      obtain ⟨b, o, rfl, hq, c0, c1, c2, c3⟩ := (hv.below hb).get hxk
      have HD : Hid (bs.drop k = x :: bs.drop (k + 1)) := drop_cons hxk
      have hlt := (HBX.out.facts).2.2
      have R1 : ∀ o, Bx4 (wr.alloc o) w.heap.size 122 (.int .i64 0) (.int .i64 0) (.int .i64 0) (.string ByteArray.empty) := fun o => HBX.out.below ((Below.refl _ _).alloc (Nat.le_refl _) o) hlt
      have B1 : ∀ o, Below w.heap.size w (wr.alloc o) := fun o => hb.alloc hb.size _
      cases e1 : (x.var.toList == s.toList)
      · have HN : Hid (lookB bs s = lookB (bs.drop (k + 1)) s) := show lookB bs s = _ from by
          rw [bytes_beq] at e1
          have : ¬ x.var = s := fun h => by subst h; simp at e1
          rw [HG.out, HD.out, lookB_cons, if_neg this]
        have HR1 := hidE R1
        clear R1
        go_wp2
        go_roundw
        case rel => exact ⟨k + 1, by omega, by go_num, HN.out, HR1.out _, B1 _⟩
        case measure => simp [intOf]; omega
      · have HN : Hid (evVar bs s = ⟨0, x.val⟩) := show evVar bs s = _ from by
          rw [bytes_beq] at e1
          have : x.var = s := by simpa using e1
          exact evVar_some (by rw [HG.out, HD.out, lookB_cons, if_pos this])
        obtain ⟨⟨f0, f1, f2, f3⟩, ⟨z0, z1, z2, z3⟩, _⟩ := HBX.out.facts
        clear R1
        go_wp2
        refine bodyPost_ret (v := evV ⟨0, x.val⟩) (by simp [results, Try.results186, go_sem, f0, f1, f2, f3, hlt, evV]) rfl ⟨by rw [HN.out], ?_⟩
        exact ((((hb.setCell (by simp) _).setCell (by simp) _).setCell (by simp) _).setCell (by simp) _).alloc (by simp; exact hb.size) _
    · have HN : Hid (evVar bs s = evBad 1) := show evVar bs s = _ from evVar_none (by rw [HG.out, List.drop_eq_nil_of_le (by omega)]; rfl)
      obtain ⟨⟨f0, f1, f2, f3⟩, ⟨z0, z1, z2, z3⟩, _⟩ := HBX.out.facts
      go_wp2
      refine bodyPost_ret (v := evV (evBad 1)) (by simp [results, Try.results186, go_sem, f0, f1, f2, f3, evV_bad]) rfl ⟨by rw [HN.out], ?_⟩
      exact (((hb.setCell (by simp) _).setCell (by simp) _).setCell (by simp) _).setCell (by simp) _
end Go.Proofs.Ytpiglmkpmlogjaa
