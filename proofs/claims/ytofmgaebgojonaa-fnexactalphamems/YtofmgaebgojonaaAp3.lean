/-
  OUR OWN TEXT. A fact that passes an Alpha: the program's side.
-/
import Derived.Test.YtofmgaebgojonaaAp2
namespace Go.Proofs.Ytofmgaebgojonaa
open Go.RowKit

theorem passes_cls {x : Al} {f : F} (h : ¬ f.cls.toList = x.cls.toList) : passes x f = false := by simp [passes, h]
theorem passes_len {x : Al} {f : F} (h : ¬ (f.slots.length : Int) = x.arity) : passes x f = false := by simp [passes, h]
theorem passes_all {x : Al} {f : F} (h : f.cls.toList = x.cls.toList) (h' : (f.slots.length : Int) = x.arity) : passes x f = x.tests.all (fun t => tHolds t f.slots) := by simp [passes, h, h']
/-- A fact in its box. -/
def FcBox (w : World) (b : Nat) (f : F) (a : Option Addr) (c : Nat) : Prop := w.cell? ⟨b, 0, none⟩ = some (.int .i64 f.tag) ∧ w.cell? ⟨b, 1, none⟩ = some (.string f.cls) ∧ w.cell? ⟨b, 2, none⟩ = some (.slice a f.slots.length c)
theorem FcBox.below {w w' : World} {b : Nat} {f : F} {a : Option Addr} {c : Nat} (h : FcBox w b f a c) (hb : Below w.heap.size w w') : FcBox w' b f a c := ⟨cell_below hb h.1, cell_below hb h.2.1, cell_below hb h.2.2⟩

set_option maxHeartbeats 1600000 in
theorem iPass_any (x : Al) (a_tests : Option Addr) (c_tests : Nat) (f : F) (a : Option Addr) (c : Nat) {q : Option Nat} (w : World) (ht : TtsAt q w a_tests x.tests) (hv : ValsAt w a f.slots) (hl : x.tests.length ≤ 1048576) :
    Calls Try.prog 50 #[.agg #[.string x.cls, .int .i64 x.arity, .slice a_tests x.tests.length c_tests], .agg #[.int .i64 f.tag, .string f.cls, .slice a f.slots.length c]] w fun e w' =>
      e = .returned (.bool (passes x f)) ∧ Below w.heap.size w w' := by
  have B2 : ∀ o o1, Below w.heap.size w ((w.alloc o).alloc o1) := fun o o1 => ((Below.refl _ _).alloc (Nat.le_refl _) _).alloc (by simp) _
  by_cases hc : f.cls.toList = x.cls.toList
  · by_cases hn : (f.slots.length : Int) = x.arity
    · have HG0 : Hid (passes x f = x.tests.all (fun t => tHolds t f.slots)) := passes_all hc hn
      have hn' : ((f.slots.length : Int) != x.arity) = false := by simp [hn]
      go_enter Try.func50, Try.ntmps50
      go_wp2
      clear hc hn hn'
      go_loopw [23] (fun i wr => ∃ (k : Nat), k ≤ x.tests.length ∧ i = .int .i64 k ∧ passes x f = (x.tests.drop k).all (fun t => tHolds t f.slots) ∧ FcBox wr (w.heap.size + 1) f a c ∧ Below w.heap.size w wr) (fun i _ => x.tests.length - (intOf i).toNat)
      case atStart => exact ⟨0, by omega, rfl, HG0.out, by refine ⟨?_, ?_, ?_⟩ <;> simp [go_sem], B2 _ _⟩
      case round =>
        obtain ⟨k, hk, rfl, hG, hbox, hb⟩ := hrel
        have HG := hidA hG
        have HBX := hidA hbox
        clear hG
        by_cases hkl : k < x.tests.length
        · obtain ⟨t, htk⟩ : ∃ t, x.tests[k]? = some t := ⟨x.tests[k], by simp [hkl]⟩
          obtain ⟨b, o, rfl, hq, c0, c1, c2, c3, c4, c5⟩ := (ht.below hb).get htk
          have HD : Hid (x.tests.drop k = t :: x.tests.drop (k + 1)) := drop_cons htk
          have B1 : ∀ o, Below wr.heap.size wr (wr.alloc o) := fun o => (Below.refl _ _).alloc (Nat.le_refl _) _
          have hV := hidA (fun o => (hv.below hb).below (B1 o))
          have hT := hidA (fun w' h => tHolds_any t f a c w' h)
          have q0 : ∀ o, (wr.alloc o).cell? ⟨w.heap.size + 1, 0, none⟩ = _ := fun o => cell_below (B1 o) hbox.1
          have q1 : ∀ o, (wr.alloc o).cell? ⟨w.heap.size + 1, 1, none⟩ = _ := fun o => cell_below (B1 o) hbox.2.1
          have q2 : ∀ o, (wr.alloc o).cell? ⟨w.heap.size + 1, 2, none⟩ = _ := fun o => cell_below (B1 o) hbox.2.2
          clear hbox
          cases hth : tHolds t f.slots
          all_goals
            rw [hth] at hT
            go_wp2_with (go_at_call 103; refine (hT.out _ (hV.out _)).mono ?_; rintro e w1 ⟨rfl, hb1⟩)
          · go_ret
            exact ⟨ret_bool (by rw [HG.out, HD.out, List.all_cons, hth]; rfl), hb.trans (((B1 _).trans (hb1.mono (by simp))).mono hb.size)⟩
          · go_roundw
            case rel => exact ⟨k + 1, by omega, by go_num, by rw [HG.out, HD.out, List.all_cons, hth]; rfl, HBX.out.below ((B1 _).trans (hb1.mono (by simp))), hb.trans (((B1 _).trans (hb1.mono (by simp))).mono hb.size)⟩
            case measure => simp [intOf]; omega
        · go_wp2
          go_ret
          exact ⟨ret_bool (by rw [HG.out, List.drop_eq_nil_of_le (by omega)]; rfl), hb⟩
    · have HN : Hid (passes x f = false) := passes_len hn
      have hn' : ((f.slots.length : Int) != x.arity) = true := by simp [hn]
      go_enter Try.func50, Try.ntmps50
      go_wp2
      go_ret
      exact ⟨ret_bool HN.out.symm, B2 _ _⟩
  · have HN : Hid (passes x f = false) := passes_cls hc
    go_enter Try.func50, Try.ntmps50
    go_wp2
    go_ret
    exact ⟨ret_bool HN.out.symm, B2 _ _⟩
end Go.Proofs.Ytofmgaebgojonaa
